package encode

import (
	"bytes"
	"encoding/binary"
	"encoding/hex"
	"math"
	"math/rand"
	"reflect"
	"slices"
	"strconv"
	"strings"
	"testing"

	"specie/api"
)

func number(n int) api.Item           { return api.Item{Kind: api.ItemInt, N: n} }
func text(b ...byte) api.Item         { return api.Item{Kind: api.ItemBytes, B: b} }
func list(l ...api.Item) api.Item     { return api.Item{Kind: api.ItemList, L: l} }
func isZero(i api.Item) bool          { return reflect.DeepEqual(i, api.Item{}) }
func head(kind byte, n uint32) []byte { return binary.BigEndian.AppendUint32([]byte{kind}, n) }

// nested returns an item within n lists.
func nested(n int, i api.Item) api.Item {
	for range n {
		i = list(i)
	}
	return i
}

// many returns a list of n times the same item.
func many(n int, i api.Item) api.Item { return list(slices.Repeat([]api.Item{i}, n)...) }

// ints are those around the powers of 2, and others.
func ints() []int {
	all := []int{math.MinInt, math.MinInt + 1, math.MaxInt, math.MaxInt - 1, 0, 5, 7, 10, 99, 100, 1000}
	for n := range 63 {
		all = append(all, 1<<n, 1<<n-1, 1<<n+1, -1<<n, -1<<n-1, -1<<n+1)
	}
	r := rand.New(rand.NewSource(1))
	for range 100 {
		all = append(all, int(r.Uint64()))
	}
	slices.Sort(all)
	return slices.Compact(all)
}

// random returns an item of at most the given depth.
func random(r *rand.Rand, depth int) api.Item {
	switch k := r.Intn(4); {
	case k == 0:
		return number(int(r.Uint64()) >> r.Intn(64))
	case k == 1:
		b := make([]byte, r.Intn(6))
		r.Read(b)
		return text(b...)
	case depth == 0:
		return number(r.Intn(3))
	}
	var l []api.Item
	for range r.Intn(4) {
		l = append(l, random(r, depth-1))
	}
	return list(l...)
}

// valid has valid items, each of which differs from all others, and can be encoded.
func valid() []api.Item {
	all := []api.Item{
		text(), text(0), text(5), text(255), text(0, 0), text(1, 2), text(2, 1), text(1, 0, 0, 0, 0, 0, 0, 0, 0), text([]byte("(-1 x05)")...),
		text(make([]byte, 255)...), text(make([]byte, 256)...), text(make([]byte, 257)...), text(make([]byte, 1000)...), text(make([]byte, api.MaxBytes-5)...),
		list(), list(list()), list(list(), list()), list(list(list())), list(list(list(), list())), list(list(list()), list()), list(list(), list(list())),
		list(text()), list(text(), text()), list(text(0)), list(text(0), text()), list(text(), text(0)), list(list(text(), text(0))), list(list(text()), text(0)),
		list(number(0)), list(number(0), number(0)), list(number(-1), text(5)), list(text(5), number(-1)), list(list(number(-1)), text(5)),
		list(number(1), number(2), number(3)), list(number(12), number(3)), list(number(1), number(23)), list(number(123)), list(list(number(1), number(2)), number(3)),
		many(api.MaxList, number(7)), many(api.MaxList-1, number(7)), many(api.MaxList, text()), many(api.MaxList, list()),
		list(number(math.MinInt), number(math.MaxInt)), list(many(100, number(1)), many(100, number(2))),
	}
	for n := 1; n <= 8; n++ {
		all = append(all, nested(n, number(-7)), nested(n, text(1, 2)))
		if n > 3 {
			all = append(all, nested(n, text()), nested(n-1, list()))
		}
	}
	for _, n := range ints() {
		all = append(all, number(n))
	}
	return all
}

// invalid has items that are not valid.
func invalid() []api.Item {
	own := []api.Item{number(1), {Kind: api.ItemList}, number(2)}
	own[1].L = own
	all := []api.Item{
		{}, {Kind: 4}, {Kind: -1}, {Kind: 255}, {Kind: 256 + api.ItemInt}, {Kind: math.MinInt}, {Kind: math.MaxInt},
		{N: 1}, {B: []byte{1}}, {L: []api.Item{number(1)}}, {Kind: 4, N: 1}, {Kind: 4, B: []byte{1}}, {Kind: 4, L: []api.Item{number(1)}},
		{Kind: api.ItemInt, B: []byte{0}}, {Kind: api.ItemInt, N: 1, B: []byte{1}}, {Kind: api.ItemInt, L: []api.Item{number(1)}}, {Kind: api.ItemInt, N: 3, L: []api.Item{{}}},
		{Kind: api.ItemBytes, N: 1}, {Kind: api.ItemBytes, N: -1, B: []byte{1}}, {Kind: api.ItemBytes, N: math.MinInt}, {Kind: api.ItemBytes, L: []api.Item{number(1)}}, {Kind: api.ItemBytes, B: []byte{1}, L: []api.Item{number(1)}},
		{Kind: api.ItemList, N: 1}, {Kind: api.ItemList, N: math.MinInt, L: []api.Item{number(1)}}, {Kind: api.ItemList, B: []byte{0}}, {Kind: api.ItemList, B: []byte{0}, L: []api.Item{number(1)}},
		many(api.MaxList+1, number(7)), many(api.MaxList+1, text()), many(api.MaxList+1, list()), many(5000, number(7)), many(api.MaxList+1, api.Item{}),
		nested(9, number(1)), nested(9, text(1)), nested(9, text()), nested(8, list()), nested(20, number(1)), nested(1000, text()),
		list(number(1), nested(8, number(1))), list(nested(8, number(1)), number(1)), list(nested(7, number(1)), nested(8, number(1))),
		list(own...), own[1],
	}
	for _, i := range slices.Clone(all) {
		all = append(all, list(i), list(number(1), i, text(2)), list(list(), list(text(), i)))
	}
	return all
}

// encoding returns the encoding of a valid item by its definition.
func encoding(i api.Item) []byte {
	switch i.Kind {
	case api.ItemInt:
		return binary.BigEndian.AppendUint64([]byte{1}, uint64(i.N))
	case api.ItemBytes:
		return slices.Concat(head(2, uint32(len(i.B))), i.B)
	}
	b := head(3, uint32(len(i.L)))
	for _, x := range i.L {
		b = slices.Concat(b, encoding(x))
	}
	return b
}

// meaning returns the string of a valid item by its definition.
func meaning(i api.Item) string {
	switch i.Kind {
	case api.ItemInt:
		return strconv.Itoa(i.N)
	case api.ItemBytes:
		return "x" + hex.EncodeToString(i.B)
	}
	var l []string
	for _, x := range i.L {
		l = append(l, meaning(x))
	}
	return "(" + strings.Join(l, " ") + ")"
}

// read returns the item with which b begins and what is left after it, by the definition.
func read(b []byte, within int) (api.Item, []byte, api.Errno) {
	if len(b) == 0 {
		return api.Item{}, nil, api.ErrEnd
	}
	kind, b := b[0], b[1:]
	switch {
	case kind == 0 || kind > 3 || kind == 3 && within == 8:
		return api.Item{}, nil, api.ErrForm
	case len(b) < 4 || kind == 1 && len(b) < 8:
		return api.Item{}, nil, api.ErrEnd
	case kind == 1:
		return number(int(binary.BigEndian.Uint64(b))), b[8:], api.OK
	}
	n, b := binary.BigEndian.Uint32(b), b[4:]
	switch {
	case kind == 2 && uint64(n) > uint64(len(b)):
		return api.Item{}, nil, api.ErrEnd
	case kind == 2:
		return text(b[:n]...), b[n:], api.OK
	case n > api.MaxList:
		return api.Item{}, nil, api.ErrForm
	}
	i := list()
	for range n {
		x, rest, e := read(b, within+1)
		if e != api.OK {
			return api.Item{}, nil, e
		}
		i.L, b = append(i.L, x), rest
	}
	return i, b, api.OK
}

// decoding returns what Decode returns, by the definition.
func decoding(b []byte) (api.Item, api.Errno) {
	if len(b) > api.MaxBytes {
		return api.Item{}, api.ErrFull
	}
	i, rest, e := read(b, 0)
	if e == api.OK && len(rest) > 0 {
		return api.Item{}, api.ErrForm
	}
	return i, e
}

// alike reports whether two items are the same tree; empty slices and nil do not differ.
func alike(a, b api.Item) bool {
	if a.Kind != b.Kind || a.N != b.N || !bytes.Equal(a.B, b.B) || len(a.L) != len(b.L) {
		return false
	}
	for k := range a.L {
		if !alike(a.L[k], b.L[k]) {
			return false
		}
	}
	return true
}

// copied returns a copy of an item that has no more than the given depth.
func copied(i api.Item) api.Item {
	i.B = bytes.Clone(i.B)
	i.L = slices.Clone(i.L)
	for k, x := range i.L {
		i.L[k] = copied(x)
	}
	return i
}

// checkDecode compares Decode with the definition.
func checkDecode(t *testing.T, b []byte) {
	t.Helper()
	want, fault := decoding(b)
	i, e := Decode(b)
	if e != fault || !alike(i, want) {
		t.Fatalf("Decode(%x): error %d, not %d, or another item", b, e, fault)
	}
	if e != api.OK && !isZero(i) {
		t.Fatalf("Decode(%x): an item with the error %d", b, e)
	}
	if e != api.OK {
		return
	}
	if again, e := Encode(i); e != api.OK || !bytes.Equal(again, b) {
		t.Fatalf("Encode(Decode(%x)): %x, %d", b, again, e)
	}
}

// P7.1: which items are valid.
func TestValid(t *testing.T) {
	for k, i := range valid() {
		if !Valid(i) {
			t.Errorf("item %d is valid", k)
		}
	}
	for k, i := range invalid() {
		if Valid(i) {
			t.Errorf("item %d is not valid", k)
		}
	}
	if !Valid(text(make([]byte, 100_000)...)) || !Valid(many(api.MaxList, many(api.MaxList, number(1)))) {
		t.Error("items that are too long to be encoded are valid")
	}
	for kind := -300; kind <= 300; kind++ {
		if Valid(api.Item{Kind: kind}) != (1 <= kind && kind <= 3) {
			t.Errorf("kind %d", kind)
		}
	}
}

// P7.1: fields that are empty, but not nil, do not matter.
func TestEmptyFields(t *testing.T) {
	for _, kind := range []int{api.ItemInt, api.ItemBytes, api.ItemList} {
		bare := api.Item{Kind: kind}
		full := api.Item{Kind: kind, B: make([]byte, 0, 5), L: make([]api.Item, 0, 5)}
		if !Valid(full) || !Equal(bare, full) || !Equal(full, bare) || !Equal(list(bare), list(full)) {
			t.Errorf("kind %d", kind)
		}
		a, e := Encode(bare)
		b, f := Encode(full)
		if e != api.OK || f != api.OK || !bytes.Equal(a, b) {
			t.Errorf("kind %d: %x %d, %x %d", kind, a, e, b, f)
		}
		x, e := Text(bare)
		y, f := Text(full)
		if e != api.OK || f != api.OK || x != y {
			t.Errorf("kind %d: %q %d, %q %d", kind, x, e, y, f)
		}
	}
}

// P7.1: encodings, by the example of the chapter, and by their definition.
func TestEncode(t *testing.T) {
	want := []byte{3, 0, 0, 0, 2, 1, 255, 255, 255, 255, 255, 255, 255, 255, 2, 0, 0, 0, 1, 5}
	if b, e := Encode(list(number(-1), text(5))); e != api.OK || !bytes.Equal(b, want) {
		t.Errorf("example: %x, %d", b, e)
	}
	for k, i := range valid() {
		if b, e := Encode(i); e != api.OK || !bytes.Equal(b, encoding(i)) {
			t.Errorf("item %d: %x, %d", k, b, e)
		}
	}
	r := rand.New(rand.NewSource(2))
	for range 2000 {
		i := random(r, 8)
		b, e := Encode(i)
		if want := encoding(i); len(want) > api.MaxBytes {
			if e != api.ErrFull || len(b) > 0 {
				t.Errorf("%s: %d", meaning(i), e)
			}
		} else if e != api.OK || !bytes.Equal(b, want) {
			t.Errorf("%s: %x, %d", meaning(i), b, e)
		}
	}
}

// P7.1: items that are not valid have no encoding, even if they are too long.
func TestEncodeInvalid(t *testing.T) {
	long := text(make([]byte, 2*api.MaxBytes)...)
	for k, i := range invalid() {
		for _, i := range []api.Item{i, list(i, long), list(long, i)} {
			if b, e := Encode(i); e != api.ErrArg || len(b) > 0 {
				t.Errorf("item %d: %x, %d", k, b, e)
			}
		}
	}
}

// P7.1: encodings of exactly MaxBytes bytes, and of more.
func TestEncodeFull(t *testing.T) {
	rest := func(n int) api.Item { return text(make([]byte, n)...) }
	for _, c := range []struct {
		size int
		item func(int) api.Item
	}{
		{5, rest},
		{10, func(n int) api.Item { return list(rest(n)) }},
		{45, func(n int) api.Item { return nested(8, rest(n)) }},
		{19, func(n int) api.Item { return list(number(1), rest(n)) }},
		{19, func(n int) api.Item { return list(rest(n), number(1)) }},
		{15, func(n int) api.Item { return list(rest(n), list()) }},
		{20, func(n int) api.Item { return list(list(rest(n)), text()) }},
		{9015, func(n int) api.Item { return list(rest(n), many(1000, number(9))) }},
	} {
		n := api.MaxBytes - c.size
		b, e := Encode(c.item(n))
		if e != api.OK || len(b) != api.MaxBytes || !bytes.Equal(b, encoding(c.item(n))) {
			t.Errorf("%d before: %d bytes, %d", c.size, len(b), e)
		}
		checkDecode(t, b)
		for _, more := range []int{1, 2, 8, 9, 1000, 100_000} {
			if b, e := Encode(c.item(n + more)); e != api.ErrFull || len(b) > 0 {
				t.Errorf("%d before, %d more: %d bytes, %d", c.size, more, len(b), e)
			}
		}
	}
	for _, i := range []api.Item{many(1000, many(2, number(0))), many(2, many(1000, number(0))), many(1000, many(3, list()))} {
		if b, e := Encode(i); e != api.ErrFull || len(b) > 0 {
			t.Errorf("many items: %d bytes, %d", len(b), e)
		}
	}
	thousand := many(1000, list())
	short := list(thousand, thousand, thousand, many(270, text()), number(1))
	if b, e := Encode(short); e != api.OK || len(b) != api.MaxBytes {
		t.Errorf("many short items: %d bytes, %d", len(b), e)
	}
	short.L[4] = text(1, 2, 3, 4, 5)
	if b, e := Encode(short); e != api.ErrFull || len(b) > 0 {
		t.Errorf("many short items, and one more byte: %d bytes, %d", len(b), e)
	}
}

// P7.1: lists that have far more items than their encoding may have are not written.
func TestVeryLong(t *testing.T) {
	i := many(300, many(100, many(1000, text(make([]byte, 10_000)...))))
	if b, e := Encode(i); e != api.ErrFull || len(b) > 0 {
		t.Errorf("%d bytes, %d", len(b), e)
	}
}

// P7.2: the item of an encoding.
func TestDecode(t *testing.T) {
	for k, i := range valid() {
		b := encoding(i)
		checkDecode(t, b)
		if x, e := Decode(b); e != api.OK || !alike(x, i) {
			t.Errorf("item %d: %d", k, e)
		}
	}
	r := rand.New(rand.NewSource(3))
	for range 2000 {
		checkDecode(t, encoding(random(r, 8)))
		checkDecode(t, encoding(random(r, 12)))
	}
}

// P7.2: the item of a short encoding has no bytes and no items, not even an empty slice with a capacity.
func TestDecodeEmpty(t *testing.T) {
	for kind := byte(2); kind <= 3; kind++ {
		i, e := Decode(head(kind, 0))
		if e != api.OK || i.Kind != int(kind) || cap(i.B) > 0 || cap(i.L) > 0 {
			t.Errorf("kind %d: %v, %d", kind, i, e)
		}
	}
}

// P7.2: encodings that are cut off after each byte, and those with bytes after the item.
func TestDecodeCut(t *testing.T) {
	for k, i := range valid() {
		b := encoding(i)
		for n := range b {
			if len(b) > 600 && n > 300 && n < len(b)-300 {
				continue
			}
			if x, e := Decode(b[:n]); e != api.ErrEnd || !isZero(x) {
				t.Fatalf("item %d, %d bytes: %v, %d", k, n, x, e)
			}
		}
		for _, more := range [][]byte{{0}, {1}, {2}, {3}, {255}, {2, 0, 0, 0, 0}, b} {
			whole := slices.Concat(b, more)
			want := api.ErrForm
			if len(whole) > api.MaxBytes {
				want = api.ErrFull
			}
			if x, e := Decode(whole); e != want || !isZero(x) {
				t.Fatalf("item %d, and %x: %v, %d", k, more, x, e)
			}
		}
	}
}

// P7.2: the errors, and which comes first.
func TestDecodeErrors(t *testing.T) {
	within := func(n int, b ...byte) []byte { return slices.Concat(bytes.Repeat(head(3, 1), n), b) }
	eight := within(8)
	for k, c := range []struct {
		b []byte
		e api.Errno
	}{
		{nil, api.ErrEnd},
		{[]byte{}, api.ErrEnd},
		{[]byte{2, 0, 0, 0, 2, 7}, api.ErrEnd}, // the example of the chapter
		{[]byte{0}, api.ErrForm},
		{[]byte{4}, api.ErrForm},
		{[]byte{255}, api.ErrForm},
		{[]byte{0, 0, 0, 0, 0}, api.ErrForm},
		{[]byte{4, 0, 0, 0, 0, 0, 0, 0, 0}, api.ErrForm},
		{[]byte{1}, api.ErrEnd},
		{[]byte{2}, api.ErrEnd},
		{[]byte{3}, api.ErrEnd},
		{[]byte{1, 0, 0, 0, 0, 0, 0, 0}, api.ErrEnd},
		{[]byte{1, 0, 0, 0, 0, 0, 0, 0, 0, 0}, api.ErrForm},
		{[]byte{2, 255, 255, 255}, api.ErrEnd},
		{[]byte{3, 255, 255, 255}, api.ErrEnd},
		{head(2, 1), api.ErrEnd},
		{head(2, 1<<31), api.ErrEnd},
		{head(2, 1<<32-1), api.ErrEnd},
		{slices.Concat(head(2, 1<<31), make([]byte, 1000)), api.ErrEnd},
		{slices.Concat(head(2, 1<<32-1), make([]byte, 1000)), api.ErrEnd},
		{slices.Concat(head(2, 1<<8), make([]byte, 255)), api.ErrEnd},
		{slices.Concat(head(2, 1<<8), make([]byte, 256)), api.OK},
		{slices.Concat(head(2, 1<<8), make([]byte, 257)), api.ErrForm},
		{head(3, 1), api.ErrEnd},
		{head(3, 1000), api.ErrEnd},
		{head(3, 1001), api.ErrForm},
		{head(3, 1<<16), api.ErrForm},
		{head(3, 1<<31), api.ErrForm},
		{head(3, 1<<31+1), api.ErrForm},
		{head(3, 1<<32-1), api.ErrForm},
		{slices.Concat(head(3, 1001), bytes.Repeat(head(2, 0), 1001)), api.ErrForm},
		{slices.Concat(head(3, 1000), bytes.Repeat(head(2, 0), 1000)), api.OK},
		{slices.Concat(head(3, 1000), bytes.Repeat(head(2, 0), 999)), api.ErrEnd},
		{slices.Concat(head(3, 1000), bytes.Repeat(head(2, 0), 1001)), api.ErrForm},
		{slices.Concat(head(3, 2), head(2, 0)), api.ErrEnd},
		{slices.Concat(head(3, 2), head(2, 0), []byte{4}), api.ErrForm},
		{slices.Concat(head(3, 2), []byte{4}), api.ErrForm},     // before the second item, of which nothing is there
		{slices.Concat(head(3, 2), head(3, 1001)), api.ErrForm}, // likewise
		{slices.Concat(head(3, 2), head(2, 9), []byte{4}), api.ErrEnd},
		{slices.Concat(head(3, 0), []byte{4}), api.ErrForm},
		{slices.Concat(eight, head(3, 0)), api.ErrForm},
		{slices.Concat(eight, []byte{3}), api.ErrForm}, // before the number that is not there
		{slices.Concat(eight, []byte{3, 0, 0}), api.ErrForm},
		{eight, api.ErrEnd},
		{slices.Concat(eight, []byte{2}), api.ErrEnd},
		{slices.Concat(eight, []byte{1}), api.ErrEnd},
		{slices.Concat(eight, []byte{0}), api.ErrForm},
		{slices.Concat(eight, []byte{4}), api.ErrForm},
		{slices.Concat(eight, head(2, 0)), api.OK},
		{slices.Concat(eight, head(2, 0), []byte{0}), api.ErrForm},
		{within(7, head(3, 0)...), api.OK},
		{within(7, head(3, 1001)...), api.ErrForm},
		{within(7, 3), api.ErrEnd},
		{within(20), api.ErrForm},
		{within(api.MaxBytes / 5), api.ErrForm},
		{make([]byte, api.MaxBytes), api.ErrForm},
		{make([]byte, api.MaxBytes+1), api.ErrFull}, // before the first byte
		{slices.Concat(head(2, api.MaxBytes-5), make([]byte, api.MaxBytes-5)), api.OK},
		{slices.Concat(head(2, api.MaxBytes-4), make([]byte, api.MaxBytes-5)), api.ErrEnd},
		{slices.Concat(head(2, api.MaxBytes-6), make([]byte, api.MaxBytes-5)), api.ErrForm},
		{slices.Concat(head(2, api.MaxBytes-4), make([]byte, api.MaxBytes-4)), api.ErrFull},
		{slices.Concat(head(2, 0), make([]byte, api.MaxBytes)), api.ErrFull},
		{slices.Concat(head(2, api.MaxBytes), make([]byte, api.MaxBytes-4)), api.ErrFull},
		{make([]byte, 100_000), api.ErrFull},
	} {
		i, e := Decode(c.b)
		if e != c.e || e != api.OK && !isZero(i) {
			t.Errorf("%d: error %d, not %d, or an item", k, e, c.e)
		}
		checkDecode(t, c.b)
	}
}

// P7.2: every first byte, and every number of bytes and of items up to 2,000, and around the powers of 2.
func TestDecodeNumbers(t *testing.T) {
	for kind := range 256 {
		for _, n := range []int{0, 1, 3, 4, 5, 7, 8, 9, 100} {
			checkDecode(t, append([]byte{byte(kind)}, make([]byte, n)...))
			checkDecode(t, append([]byte{3, 0, 0, 0, 1, byte(kind)}, make([]byte, n)...))
		}
	}
	var counts []uint32
	for n := range uint32(2000) {
		counts = append(counts, n)
	}
	for k := range 32 {
		counts = append(counts, 1<<k-1, 1<<k, 1<<k+1, 1<<k|1<<31)
	}
	for _, n := range counts {
		for _, left := range []int{0, 1, 8, 9, 1000} {
			checkDecode(t, slices.Concat(head(2, n), make([]byte, left)))
			checkDecode(t, slices.Concat(head(3, n), bytes.Repeat(head(2, 0), left)))
			checkDecode(t, slices.Concat(head(3, 1), head(3, n), bytes.Repeat(head(3, 0), left)))
		}
	}
}

// P7.2: all short byte strings of bytes that matter, and random changes of encodings.
func TestDecodeAny(t *testing.T) {
	var all func(b []byte, n int)
	all = func(b []byte, n int) {
		checkDecode(t, b)
		if n == 0 {
			return
		}
		for _, x := range []byte{0, 1, 2, 3, 4, 255} {
			all(append(slices.Clone(b), x), n-1)
		}
	}
	all(nil, 6)
	r := rand.New(rand.NewSource(4))
	for range 20_000 {
		b := encoding(random(r, 9))
		for range r.Intn(3) + 1 {
			k := r.Intn(len(b))
			switch r.Intn(4) {
			case 0:
				b[k] = byte(r.Intn(256))
			case 1:
				b[k] = byte(r.Intn(5))
			case 2:
				b = slices.Delete(b, k, k+1)
			case 3:
				b = slices.Insert(b, k, byte(r.Intn(4)))
			}
			if len(b) == 0 {
				b = []byte{3}
			}
		}
		checkDecode(t, b)
	}
}

// P7.3: which items are equal; those that are not valid are not, not even with themselves.
func TestEqual(t *testing.T) {
	items, wrong := valid(), invalid()
	for x, a := range items {
		for y, b := range items {
			if Equal(a, b) != (x == y) {
				t.Errorf("items %d and %d", x, y)
			}
		}
		if b := copied(a); !Equal(a, b) || !Equal(b, a) {
			t.Errorf("item %d and its copy", x)
		}
		for y, b := range wrong {
			if Equal(a, b) || Equal(b, a) {
				t.Errorf("item %d and the invalid item %d", x, y)
			}
		}
	}
	for x, a := range wrong {
		for y, b := range wrong {
			if Equal(a, b) {
				t.Errorf("invalid items %d and %d", x, y)
			}
		}
	}
}

// P7.3: items that are too long to be encoded are compared, too.
func TestEqualLong(t *testing.T) {
	b := make([]byte, 3*api.MaxBytes)
	a, c := text(b...), text(append(bytes.Clone(b[1:]), 1)...)
	if !Equal(a, copied(a)) || !Equal(list(a), list(copied(a))) || Equal(a, c) || Equal(list(a, c), list(c, a)) || Equal(a, list(a)) {
		t.Error("long byte strings")
	}
	p, q := many(1000, many(1000, number(1))), many(1000, many(1000, number(1)))
	q.L[999] = many(1000, number(1))
	if !Equal(p, q) {
		t.Error("long lists")
	}
	q.L[999].L[999].N = 2
	if Equal(p, q) || Equal(q, p) {
		t.Error("long lists that differ at the end")
	}
}

// P7.3: lists of integers.
func TestInts(t *testing.T) {
	for _, l := range [][]int{nil, {}, {0}, {-1}, {4, -4}, {math.MinInt, math.MaxInt, 0}, ints(), make([]int, 1000)} {
		i := Ints(l)
		if i.Kind != api.ItemList || i.N != 0 || len(i.B) > 0 || len(i.L) != len(l) || !Valid(i) {
			t.Fatalf("%v: %v", l, i)
		}
		for k, x := range i.L {
			if !alike(x, number(l[k])) {
				t.Errorf("%v: item %d is %v", l, k, x)
			}
		}
	}
	for _, n := range []int{1001, 5000} {
		i := Ints(slices.Repeat([]int{3}, n))
		if Valid(i) || i.Kind != api.ItemList || len(i.L) != n || !alike(i.L[n-1], number(3)) {
			t.Errorf("list of %d", n)
		}
	}
}

// P7.4: the number of an integer.
func TestNumber(t *testing.T) {
	for _, n := range ints() {
		if x, e := Number(number(n)); e != api.OK || x != n {
			t.Errorf("%d: %d, %d", n, x, e)
		}
	}
	for k, i := range valid() {
		if i.Kind == api.ItemInt {
			continue
		}
		if x, e := Number(i); e != api.ErrForm || x != 0 {
			t.Errorf("item %d: %d, %d", k, x, e)
		}
	}
	for k, i := range invalid() {
		if x, e := Number(i); e != api.ErrArg || x != 0 {
			t.Errorf("invalid item %d: %d, %d", k, x, e)
		}
	}
}

// P7.4: the numbers of a list of integers.
func TestNumbers(t *testing.T) {
	for _, l := range [][]int{nil, {0}, {-1}, {4, -4}, {math.MinInt, math.MaxInt, 0}, ints(), make([]int, 1000)} {
		if x, e := Numbers(Ints(l)); e != api.OK || !slices.Equal(x, l) {
			t.Errorf("%v: %v, %d", l, x, e)
		}
	}
	for k, i := range valid() {
		if i.Kind == api.ItemList && !slices.ContainsFunc(i.L, func(x api.Item) bool { return x.Kind != api.ItemInt }) {
			if x, e := Numbers(i); e != api.OK || len(x) != len(i.L) {
				t.Errorf("item %d: %v, %d", k, x, e)
			}
			continue
		}
		if x, e := Numbers(i); e != api.ErrForm || len(x) > 0 {
			t.Errorf("item %d: %v, %d", k, x, e)
		}
	}
	for _, other := range []api.Item{text(), text(1), list(), list(number(1))} {
		for k := range 3 {
			i := Ints([]int{1, 2, 3})
			i.L[k] = other
			if x, e := Numbers(i); e != api.ErrForm || len(x) > 0 {
				t.Errorf("%s in the place %d: %v, %d", meaning(other), k, x, e)
			}
		}
	}
	for k, i := range invalid() {
		if x, e := Numbers(list(text(), i)); e != api.ErrArg || len(x) > 0 {
			t.Errorf("invalid item %d after a byte string: %v, %d", k, x, e)
		}
		if x, e := Numbers(i); e != api.ErrArg || len(x) > 0 {
			t.Errorf("invalid item %d: %v, %d", k, x, e)
		}
	}
	if x, e := Numbers(Ints(make([]int, 1001))); e != api.ErrArg || len(x) > 0 {
		t.Errorf("too many numbers: %d, %d", len(x), e)
	}
}

// P7.5: strings, by the example of the chapter, and by their definition.
func TestText(t *testing.T) {
	if s, e := Text(list(number(-1), text(5))); e != api.OK || s != "(-1 x05)" {
		t.Errorf("example: %q, %d", s, e)
	}
	for k, i := range valid() {
		if s, e := Text(i); e != api.OK || s != meaning(i) {
			t.Errorf("item %d: %q, %d", k, s, e)
		}
	}
	for x := range 256 {
		i := text(byte(x))
		if s, e := Text(i); e != api.OK || s != meaning(i) {
			t.Errorf("byte %d: %q, %d", x, s, e)
		}
	}
	r := rand.New(rand.NewSource(5))
	for range 1000 {
		i := random(r, 8)
		if s, e := Text(i); e != api.OK || s != meaning(i) {
			t.Errorf("%q, %d, not %s", s, e, meaning(i))
		}
	}
	long := text(make([]byte, 2*api.MaxBytes)...)
	if s, e := Text(list(long, long)); e != api.OK || s != meaning(list(long, long)) {
		t.Errorf("long item: %d characters, %d", len(s), e)
	}
	for k, i := range invalid() {
		if s, e := Text(i); e != api.ErrArg || s != "" {
			t.Errorf("invalid item %d: %q, %d", k, s, e)
		}
	}
}

// P7.6: decoding and encoding undo each other.
func TestBack(t *testing.T) {
	for k, i := range valid() {
		b, e := Encode(i)
		x, f := Decode(b)
		if e != api.OK || f != api.OK || !Equal(x, i) || !Valid(x) {
			t.Errorf("item %d: %d, %d", k, e, f)
		}
		if again, e := Encode(x); e != api.OK || !bytes.Equal(again, b) {
			t.Errorf("item %d: %x again, %d", k, again, e)
		}
	}
}

// P7.6: different items have different encodings, none of which is the beginning of the other one, and different strings.
func TestDifferent(t *testing.T) {
	items := valid()
	r := rand.New(rand.NewSource(6))
	for range 300 {
		if i := random(r, 3); !slices.ContainsFunc(items, func(x api.Item) bool { return alike(x, i) }) {
			items = append(items, i)
		}
	}
	var codes [][]byte
	var names []string
	for k, i := range items {
		b, e := Encode(i)
		s, f := Text(i)
		if e != api.OK || f != api.OK {
			t.Fatalf("item %d: %d, %d", k, e, f)
		}
		codes, names = append(codes, b), append(names, s)
	}
	for x := range items {
		for y := range items {
			if x != y && (bytes.HasPrefix(codes[x], codes[y]) || names[x] == names[y] || Equal(items[x], items[y])) {
				t.Errorf("items %d and %d: %s and %s", x, y, names[x], names[y])
			}
		}
	}
}

// Arguments are not modified, not even beyond their lengths.
func TestArguments(t *testing.T) {
	for k, i := range append(valid(), nested(9, text(1)), many(1001, text(2)), list(api.Item{Kind: 4, B: []byte{1}})) {
		roomy := list(api.Item{Kind: i.Kind, N: i.N, B: append(make([]byte, 0, len(i.B)+9), i.B...), L: append(make([]api.Item, 0, len(i.L)+9), i.L...)})
		before := copied(roomy)
		Valid(roomy)
		Encode(roomy)
		Equal(roomy, roomy)
		Number(roomy)
		Numbers(roomy)
		Text(roomy)
		if !reflect.DeepEqual(roomy, before) {
			t.Errorf("item %d changed", k)
		}
		inner := roomy.L[0]
		for _, x := range inner.B[len(inner.B):cap(inner.B)] {
			if x != 0 {
				t.Errorf("item %d: bytes behind it changed", k)
			}
		}
		for _, x := range inner.L[len(inner.L):cap(inner.L)] {
			if !isZero(x) {
				t.Errorf("item %d: items behind it changed", k)
			}
		}
		b := encoding(roomy)
		code := append(make([]byte, 0, len(b)+9), b...)
		Decode(code)
		if !bytes.Equal(code, b) || !bytes.Equal(code[len(b):cap(code)], make([]byte, cap(code)-len(b))) {
			t.Errorf("item %d: encoding changed", k)
		}
	}
	l := []int{3, 1, 2, 0, 0, 0}
	Ints(l[:3])
	if !slices.Equal(l, []int{3, 1, 2, 0, 0, 0}) {
		t.Errorf("numbers changed: %v", l)
	}
}

// spoil overwrites all that an item has, up to the capacities.
func spoil(i api.Item) {
	for k := range i.B[:cap(i.B)] {
		i.B[:cap(i.B)][k] = 99
	}
	for _, x := range i.L {
		spoil(x)
	}
	for k := range i.L[:cap(i.L)] {
		i.L[:cap(i.L)][k] = text(99)
	}
}

// Results share no memory with arguments, and no two parts of a result share any.
func TestMemory(t *testing.T) {
	for k, i := range valid() {
		want := encoding(i)
		part := copied(i)
		b, _ := Encode(part)
		spoil(part)
		if !bytes.Equal(b, want) {
			t.Fatalf("item %d: its encoding is part of it", k)
		}
		x, _ := Decode(b)
		for n := range b {
			b[n] = 77
		}
		if !alike(x, i) {
			t.Fatalf("item %d is part of its encoding", k)
		}
		for n := range x.L {
			y, _ := Decode(want)
			spoil(y.L[n])
			y.L[n] = x.L[n]
			if !alike(y, i) {
				t.Fatalf("item %d: its items share memory", k)
			}
			if n > 20 {
				break
			}
		}
		b, _ = Encode(i)
		for n := range b[:cap(b)] {
			b[:cap(b)][n] = 77
		}
		if !bytes.Equal(encoding(i), want) {
			t.Fatalf("item %d is changed by its encoding", k)
		}
		x, _ = Decode(want)
		spoil(x)
		if !bytes.Equal(encoding(i), want) {
			t.Fatalf("item %d: its encoding is changed by it", k)
		}
	}
	l := []int{1, 2, 3}
	i := Ints(l)
	l[0], l[1], l[2] = 7, 7, 7
	if !alike(i, list(number(1), number(2), number(3))) {
		t.Error("the numbers of a list are those of the argument")
	}
	numbers, _ := Numbers(i)
	for n := range numbers[:cap(numbers)] {
		numbers[:cap(numbers)][n] = 9
	}
	if !alike(i, list(number(1), number(2), number(3))) {
		t.Error("a list is changed by its numbers")
	}
}

// P1: a list that contains itself is too deep, and one whose items share memory is like any other.
func TestShared(t *testing.T) {
	own := make([]api.Item, api.MaxList)
	for k := range own {
		own[k] = api.Item{Kind: api.ItemList, L: own}
	}
	i := list(own...)
	_, e := Encode(i)
	_, f := Text(i)
	if Valid(i) || e != api.ErrArg || f != api.ErrArg || Equal(i, i) {
		t.Error("a list that contains itself")
	}
	one := text(1, 2)
	shared := list(list(one, one), list(one, one), one)
	b, e := Encode(shared)
	if e != api.OK || !bytes.Equal(b, encoding(shared)) {
		t.Errorf("shared items: %x, %d", b, e)
	}
	if s, e := Text(shared); e != api.OK || s != "((x0102 x0102) (x0102 x0102) x0102)" {
		t.Errorf("shared items: %s, %d", s, e)
	}
	if x, e := Decode(b); e != api.OK || !alike(x, shared) {
		t.Errorf("shared items: %d", e)
	}
}
