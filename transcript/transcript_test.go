package transcript

import (
	"bytes"
	"crypto/sha256"
	"encoding/binary"
	"math"
	"math/big"
	"math/rand"
	"reflect"
	"slices"
	"strings"
	"testing"

	"specie/api"
	"specie/digest"
	"specie/encode"
)

func number(n int) api.Item           { return api.Item{Kind: api.ItemInt, N: n} }
func text(b ...byte) api.Item         { return api.Item{Kind: api.ItemBytes, B: b} }
func list(l ...api.Item) api.Item     { return api.Item{Kind: api.ItemList, L: l} }
func head(kind byte, n int) []byte    { return binary.BigEndian.AppendUint32([]byte{kind}, uint32(n)) }
func zeros(n int) api.Item            { return text(make([]byte, n)...) }
func many(n int, i api.Item) api.Item { return list(slices.Repeat([]api.Item{i}, n)...) }

// nested returns an item within n lists.
func nested(n int, i api.Item) api.Item {
	for range n {
		i = list(i)
	}
	return i
}

// encoding returns the encoding of a valid item by its definition.
func encoding(i api.Item) []byte {
	switch i.Kind {
	case api.ItemInt:
		return binary.BigEndian.AppendUint64([]byte{1}, uint64(i.N))
	case api.ItemBytes:
		return slices.Concat(head(2, len(i.B)), i.B)
	}
	b := head(3, len(i.L))
	for _, x := range i.L {
		b = append(b, encoding(x)...)
	}
	return b
}

// framed returns a frame, written out by its definition.
func framed(t api.Transcript, label string, encodings ...[]byte) []byte {
	return slices.Concat(head(3, 2+len(encodings)), head(2, 32), t.State[:], head(2, len(label)), []byte(label), slices.Concat(encodings...))
}

// tagged returns the digest of b under a tag by its definition.
func tagged(tag string, b []byte) api.Hash {
	h := sha256.Sum256([]byte(tag))
	return sha256.Sum256(slices.Concat(h[:], h[:], b))
}

// reduced returns the number that the first 16 bytes of h are, modulo q.
func reduced(h api.Hash, q int) int {
	n := new(big.Int).SetBytes(h[:16])
	return int(n.Mod(n, big.NewInt(int64(q))).Int64())
}

// absorbed returns the transcript that has absorbed an item, by the definition.
func absorbed(t api.Transcript, label string, i api.Item) api.Transcript {
	return api.Transcript{State: tagged("specie/absorb", framed(t, label, encoding(i))), Count: t.Count + 1}
}

// transcripts has valid transcripts, of all kinds of states and Counts.
func transcripts() []api.Transcript {
	all := []api.Transcript{{}, {Count: api.MaxList}, {Count: api.MaxList - 1}, {Count: 1}}
	r := rand.New(rand.NewSource(1))
	for range 10 {
		t := api.Transcript{Count: r.Intn(api.MaxList)}
		r.Read(t.State[:])
		all = append(all, t)
	}
	for k := range 32 {
		t := api.Transcript{Count: k}
		t.State[k] = byte(1 + 8*k)
		all = append(all, t)
	}
	return append(all, api.Transcript{State: tagged("specie/transcript", []byte("a"))})
}

// wrongTranscripts have Counts that are out of range.
func wrongTranscripts() []api.Transcript {
	var all []api.Transcript
	for _, n := range []int{-1, api.MaxList + 1, -2, api.MaxList + 2, -api.MaxList, 1 << 20, 1 << 32, 1<<32 + 1, -1 << 32, math.MinInt, math.MinInt + 1, math.MaxInt - 1, math.MaxInt} {
		all = append(all, api.Transcript{Count: n}, api.Transcript{State: api.Hash{1, 2, 3}, Count: n})
	}
	return all
}

// labels has labels of 1 to MaxName bytes, with all bytes that a label may have.
func labels() []string {
	all := []string{"aa", "ab", "ba", "A", "a", "a!", "!a", "~", "!", "specie/absorb", "commitment", "(-1x05)", "%s"}
	for n := 3; n <= api.MaxName; n++ {
		all = append(all, strings.Repeat("x", n), strings.Repeat("~", n-1)+"!")
	}
	for x := 33; x <= 126; x++ {
		all = append(all, string([]byte{'=', byte(x), '='}))
	}
	return all
}

// wrongLabels are no labels.
func wrongLabels() []string {
	all := []string{"", " ", "  ", "a b", " a", "a ", "a\n", "\ta", "caf\xc3\xa9", "\xff\xfe", "\u2603", strings.Repeat("x", 25), strings.Repeat("x", 26), strings.Repeat("x", 1000), strings.Repeat(" ", 24), strings.Repeat("y", 1<<20)}
	for x := range 256 {
		if b := string([]byte{byte(x)}); x < 33 || x > 126 {
			all = append(all, b, b+"a", "a"+b, "a"+b+"a", strings.Repeat("a", 23)+b, b+strings.Repeat("a", 23), strings.Repeat("a", 11)+b+strings.Repeat("a", 12))
		}
	}
	return all
}

// items has valid items of a depth of at most 7.
func items() []api.Item {
	all := []api.Item{
		number(0), number(1), number(-1), number(255), number(256), number(math.MinInt), number(math.MaxInt), number(api.MaxWord), number(api.MaxWord - 1),
		text(), text(0), text(0, 0), text(1), text(5, 6), text([]byte("a")...), zeros(32), zeros(255), zeros(256), zeros(16_000),
		list(), list(list()), list(list(), list()), list(number(0)), list(number(1), number(2)), list(number(2), number(1)), list(list(number(1), number(2))), list(list(number(1)), number(2)),
		list(text(), text()), list(text(1), text(2)), list(text(1, 2), text()), list(number(-1), text(5)), list(text(5), number(-1)),
		many(api.MaxList, number(9)), many(api.MaxList, list()), many(api.MaxList, text()), list(many(500, number(1)), many(500, number(2))),
	}
	for n := 1; n <= 7; n++ {
		all = append(all, nested(n, number(-7)), nested(n, text(1, 2)), list(number(n), nested(n-1, text(7)), text()))
		if n > 2 {
			all = append(all, nested(n-1, list()))
		}
	}
	return all
}

// wrongItems are not valid, or too deep.
func wrongItems() []api.Item {
	own := []api.Item{number(1), {Kind: api.ItemList}, number(2)}
	own[1].L = own
	all := []api.Item{
		{}, {Kind: 4}, {Kind: -1}, {Kind: math.MinInt}, {Kind: math.MaxInt}, {Kind: 256 + api.ItemInt}, {N: 1}, {B: []byte{1}},
		{Kind: api.ItemInt, B: []byte{0}}, {Kind: api.ItemInt, N: 1, L: []api.Item{number(1)}},
		{Kind: api.ItemBytes, N: 1}, {Kind: api.ItemBytes, B: []byte{1}, L: []api.Item{number(1)}},
		{Kind: api.ItemList, N: -1}, {Kind: api.ItemList, B: []byte{0}, L: []api.Item{number(1)}},
		many(api.MaxList+1, number(7)), many(api.MaxList+1, list()), many(5000, text()),
		list(own...), own[1],
	}
	for _, i := range slices.Clone(all) {
		all = append(all, list(i), list(number(1), i, text(2)), nested(6, i), list(list(), list(text(), list(i))))
	}
	for n := 8; n <= 20; n++ {
		all = append(all, nested(n, number(1)), nested(n, text()), nested(n-1, list()), list(number(1), nested(n-1, number(1))), list(nested(n-1, number(1)), number(1)))
	}
	return append(all, nested(1000, text(1)))
}

// checkAbsorb compares what Absorb or Ints returned with the expected transcript and error.
func checkAbsorb(t *testing.T, what string, got api.Transcript, e api.Errno, want api.Transcript, fault api.Errno) {
	t.Helper()
	if e != fault || got != want {
		t.Errorf("%s: %v, error %d, not %v, %d", what, got, e, want, fault)
	}
}

// P8.1: which transcripts are valid.
func TestValid(t *testing.T) {
	for _, n := range []int{-1, 0, 1, 2, 500, api.MaxList - 2, api.MaxList - 1, api.MaxList, api.MaxList + 1, api.MaxList + 2, math.MinInt, math.MaxInt} {
		for _, h := range []api.Hash{{}, {1}, {31: 255}} {
			if Valid(api.Transcript{State: h, Count: n}) != (n >= 0 && n <= 1000) {
				t.Errorf("Count %d", n)
			}
		}
	}
	for _, x := range transcripts() {
		if !Valid(x) {
			t.Errorf("%v is valid", x)
		}
	}
	for _, x := range wrongTranscripts() {
		if Valid(x) {
			t.Errorf("%v is not valid", x)
		}
	}
}

// P8.1: the transcripts that begin with a label, by their definition.
func TestNew(t *testing.T) {
	for _, s := range labels() {
		x, e := New(s)
		if want := (api.Transcript{State: tagged("specie/transcript", []byte(s))}); e != api.OK || x != want || !Valid(x) {
			t.Errorf("%q: %v, %d, not %v", s, x, e, want)
		}
		if h, _ := digest.Tagged("specie/transcript", []byte(s)); x.State != h {
			t.Errorf("%q: %v, not %v", s, x.State, h)
		}
	}
	for _, s := range wrongLabels() {
		if x, e := New(s); e != api.ErrArg || x != (api.Transcript{}) {
			t.Errorf("%q: %v, %d", s, x, e)
		}
	}
}

// P8.1: each byte in each place of a label.
func TestBytesOfLabels(t *testing.T) {
	for x := range 256 {
		for place := range api.MaxName {
			b := bytes.Repeat([]byte{'m'}, api.MaxName)
			b[place] = byte(x)
			_, e := New(string(b))
			if (e == api.OK) != (x >= 33 && x <= 126) || e != api.OK && e != api.ErrArg {
				t.Errorf("byte %d in the place %d: %d", x, place, e)
			}
		}
	}
}

// The example of the chapter.
func TestExample(t *testing.T) {
	a, e := New("a")
	b, f := Ints(a, "x", []int{1, 2})
	c, n, g := Challenge(b, "c", 7)
	if e != api.OK || f != api.OK || g != api.OK || a.Count != 0 || b.Count != 1 || c.Count != 2 || n < 0 || n > 6 {
		t.Error(a, e, b, f, c, n, g)
	}
}

// P8.2: what has absorbed an item, by the definition.
func TestAbsorb(t *testing.T) {
	for k, i := range items() {
		for _, x := range transcripts() {
			if x.Count == api.MaxList {
				continue
			}
			got, e := Absorb(x, "item", i)
			checkAbsorb(t, "item", got, e, absorbed(x, "item", i), api.OK)
		}
		for _, s := range labels() {
			x := api.Transcript{State: api.Hash{byte(k), 5}, Count: k}
			got, e := Absorb(x, s, i)
			checkAbsorb(t, s, got, e, absorbed(x, s, i), api.OK)
		}
		x := api.Transcript{State: api.Hash{7}, Count: 3}
		frame, e := encode.Encode(list(text(x.State[:]...), text([]byte("both")...), i))
		h, f := digest.Tagged("specie/absorb", frame)
		if got, g := Absorb(x, "both", i); e != api.OK || f != api.OK || g != api.OK || got.State != h || got.Count != 4 {
			t.Errorf("item %d: %v %d %d %d", k, got, e, f, g)
		}
	}
}

// P8.2: items that are not valid or too deep, and items of the greatest depth.
func TestAbsorbInvalid(t *testing.T) {
	for k, i := range wrongItems() {
		for _, x := range []api.Transcript{{}, {Count: 5}, {Count: api.MaxList}} {
			got, e := Absorb(x, "a", i)
			if e != api.ErrArg || got != (api.Transcript{}) {
				t.Errorf("item %d: %v, %d", k, got, e)
			}
		}
	}
	for n := range 12 {
		for _, c := range []struct {
			i     api.Item
			depth int
		}{{nested(n, number(1)), n}, {nested(n, text(1)), n}, {nested(n, list()), n + 1}} {
			x := api.Transcript{State: api.Hash{3}}
			want, fault := api.Transcript{}, api.ErrArg
			if c.depth <= 7 {
				want, fault = absorbed(x, "a", c.i), api.OK
			}
			got, e := Absorb(x, "a", c.i)
			checkAbsorb(t, "depth", got, e, want, fault)
		}
	}
}

// P8.2: the first argument and the label.
func TestAbsorbArguments(t *testing.T) {
	for _, x := range wrongTranscripts() {
		got, e := Absorb(x, "a", number(1))
		checkAbsorb(t, "transcript", got, e, api.Transcript{}, api.ErrArg)
		got, e = Ints(x, "a", []int{1})
		checkAbsorb(t, "transcript", got, e, api.Transcript{}, api.ErrArg)
	}
	for _, s := range wrongLabels() {
		got, e := Absorb(api.Transcript{}, s, number(1))
		checkAbsorb(t, "label", got, e, api.Transcript{}, api.ErrArg)
		got, e = Ints(api.Transcript{}, s, []int{1})
		checkAbsorb(t, "label", got, e, api.Transcript{}, api.ErrArg)
	}
}

// P8.2: frames of exactly MaxBytes bytes, of one fewer, and of more.
func TestAbsorbFull(t *testing.T) {
	x := api.Transcript{State: api.Hash{8}, Count: 2}
	for n := 1; n <= api.MaxName; n++ {
		label := strings.Repeat("f", n)
		for _, wrap := range []func(api.Item) api.Item{
			func(i api.Item) api.Item { return i },
			func(i api.Item) api.Item { return list(i) },
			func(i api.Item) api.Item { return nested(7, i) },
			func(i api.Item) api.Item { return list(number(1), i) },
			func(i api.Item) api.Item { return list(i, many(1000, number(1))) },
		} {
			room := api.MaxBytes - len(framed(x, label, encoding(wrap(text()))))
			for _, more := range []int{-1, 0, 1, 2, 5, 100, api.MaxBytes} {
				i := wrap(zeros(room + more))
				want, fault := api.Transcript{}, api.ErrFull
				if more <= 0 {
					want, fault = absorbed(x, label, i), api.OK
				}
				got, e := Absorb(x, label, i)
				checkAbsorb(t, label, got, e, want, fault)
			}
		}
	}
	for _, i := range []api.Item{zeros(1 << 20), many(1000, many(1000, number(1))), many(1000, zeros(1000))} {
		got, e := Absorb(x, "a", i)
		checkAbsorb(t, "long", got, e, api.Transcript{}, api.ErrFull)
	}
}

// P8.2: transcripts that have absorbed almost as much as they can.
func TestAbsorbCount(t *testing.T) {
	for _, n := range []int{0, 1, api.MaxList - 2, api.MaxList - 1, api.MaxList} {
		x := api.Transcript{State: api.Hash{6}, Count: n}
		want, fault := absorbed(x, "a", number(4)), api.OK
		again := absorbed(x, "a", list(number(4)))
		if n == api.MaxList {
			want, again, fault = api.Transcript{}, api.Transcript{}, api.ErrFull
		}
		got, e := Absorb(x, "a", number(4))
		checkAbsorb(t, "Absorb", got, e, want, fault)
		got, e = Ints(x, "a", []int{4})
		checkAbsorb(t, "Ints", got, e, again, fault)
	}
}

// P8.2: lists of integers.
func TestInts(t *testing.T) {
	full := slices.Repeat([]int{math.MinInt}, api.MaxList)
	for _, l := range [][]int{nil, {}, {0}, {-1}, {5}, {1, 2}, {2, 1}, {math.MinInt, 0, math.MaxInt}, {math.MaxInt}, full[:999], full} {
		all := list()
		for _, n := range l {
			all.L = append(all.L, number(n))
		}
		for _, s := range []string{"a", strings.Repeat("~", api.MaxName)} {
			for _, x := range transcripts() {
				if x.Count == api.MaxList {
					continue
				}
				got, e := Ints(x, s, l)
				checkAbsorb(t, s, got, e, absorbed(x, s, all), api.OK)
				same, e := Absorb(x, s, encode.Ints(l))
				checkAbsorb(t, s, got, api.OK, same, e)
			}
		}
	}
	for _, n := range []int{1001, 1002, 5000, 1 << 20} {
		got, e := Ints(api.Transcript{}, "a", make([]int, n))
		checkAbsorb(t, "too many", got, e, api.Transcript{}, api.ErrArg)
	}
	a, e := Ints(api.Transcript{}, "a", nil)
	b, f := Ints(api.Transcript{}, "a", []int{})
	if e != api.OK || f != api.OK || a != b {
		t.Error("nil and no numbers differ")
	}
}

// moduli are those for which there are challenges.
func moduli() []int {
	all := []int{2, 3, 4, 5, 7, 11, 1000, api.MaxWord - 1, api.MaxWord - 2, 1<<60 - 1, 1 << 60, 1<<60 + 1, 1<<61 - 31}
	for k := 2; k < 61; k++ {
		all = append(all, 1<<k, 1<<k+1)
	}
	r := rand.New(rand.NewSource(3))
	for range 50 {
		all = append(all, 2+int(r.Uint64()%(api.MaxWord-2))>>r.Intn(50))
	}
	return all
}

// wrongModuli are out of range.
func wrongModuli() []int {
	return []int{1, 0, -1, -2, api.MaxWord, api.MaxWord + 1, 1 << 62, math.MinInt, math.MinInt + 1, math.MinInt + 2, math.MaxInt, math.MaxInt - 1, -api.MaxWord, -api.MaxWord + 1}
}

// P8.3: challenges, and what has absorbed them, by their definitions.
func TestChallenge(t *testing.T) {
	check := func(x api.Transcript, s string, q int) {
		t.Helper()
		h := tagged("specie/challenge", framed(x, s))
		c := reduced(h, q)
		next, n, e := Challenge(x, s, q)
		if e != api.OK || n != c || next != absorbed(x, s, number(c)) || n < 0 || n >= q {
			t.Errorf("%v, %q, %d: %v, %d, %d, not %d", x, s, q, next, n, e, c)
		}
		if m, _ := digest.Number(h, q); m != n {
			t.Errorf("%v, %q, %d: %d, not %d", x, s, q, n, m)
		}
		if same, e := Absorb(x, s, number(n)); e != api.OK || same != next {
			t.Errorf("%v, %q, %d: %v, not %v", x, s, q, next, same)
		}
	}
	for _, x := range transcripts() {
		if x.Count == api.MaxList {
			continue
		}
		for _, q := range moduli() {
			check(x, "challenge", q)
		}
		for _, s := range labels() {
			check(x, s, 11)
		}
	}
}

// P8.3: arguments of Challenge that are not valid, and transcripts that are full.
func TestChallengeErrors(t *testing.T) {
	check := func(x api.Transcript, s string, q int, want api.Errno) {
		t.Helper()
		if next, n, e := Challenge(x, s, q); e != want || next != (api.Transcript{}) || n != 0 {
			t.Errorf("%v, %q, %d: %v, %d, %d, not %d", x, s, q, next, n, e, want)
		}
	}
	for _, q := range append(moduli(), wrongModuli()...) {
		for _, x := range wrongTranscripts() {
			check(x, "a", q, api.ErrArg)
			check(x, "", q, api.ErrArg)
		}
		check(api.Transcript{}, "", q, api.ErrArg)
		check(api.Transcript{}, strings.Repeat("a", 25), q, api.ErrArg)
		check(api.Transcript{Count: api.MaxList}, "a b", q, api.ErrArg)
	}
	for _, s := range wrongLabels() {
		check(api.Transcript{State: api.Hash{1}}, s, 7, api.ErrArg)
	}
	for _, q := range wrongModuli() {
		check(api.Transcript{}, "a", q, api.ErrRange)
		check(api.Transcript{Count: api.MaxList - 1}, "a", q, api.ErrRange)
		check(api.Transcript{Count: api.MaxList}, "a", q, api.ErrRange)
	}
	for _, q := range moduli() {
		check(api.Transcript{Count: api.MaxList}, "a", q, api.ErrFull)
		check(api.Transcript{State: api.Hash{1}, Count: api.MaxList}, strings.Repeat("a", 24), q, api.ErrFull)
	}
	x := api.Transcript{State: api.Hash{2}, Count: api.MaxList - 1}
	if next, _, e := Challenge(x, "a", 7); e != api.OK || next.Count != api.MaxList {
		t.Errorf("the last challenge: %v, %d", next, e)
	}
}

// P8.4: digests by their definition, also of a full transcript, and invalid arguments.
func TestDigest(t *testing.T) {
	for _, x := range transcripts() {
		for _, s := range labels() {
			if h, e := Digest(x, s); e != api.OK || h != tagged("specie/digest", framed(x, s)) {
				t.Errorf("%v, %q: %v, %d", x, s, h, e)
			}
		}
		for _, s := range wrongLabels() {
			if h, e := Digest(x, s); e != api.ErrArg || h != (api.Hash{}) {
				t.Errorf("%v, %q: %v, %d", x, s, h, e)
			}
		}
	}
	for _, x := range wrongTranscripts() {
		for _, s := range []string{"a", "", " "} {
			if h, e := Digest(x, s); e != api.ErrArg || h != (api.Hash{}) {
				t.Errorf("%v, %q: %v, %d", x, s, h, e)
			}
		}
	}
}

// P8.2 and P1: which error of Absorb and Ints comes first, for all combinations of faults.
func TestOrderOfErrors(t *testing.T) {
	type part[T any] struct {
		value T
		e     api.Errno
	}
	states := []part[api.Transcript]{{api.Transcript{Count: 3}, api.OK}, {api.Transcript{Count: api.MaxList}, api.ErrFull}, {api.Transcript{Count: -1}, api.ErrArg}, {api.Transcript{Count: api.MaxList + 1}, api.ErrArg}}
	names := []part[string]{{"a", api.OK}, {strings.Repeat("a", 24), api.OK}, {"", api.ErrArg}, {strings.Repeat("a", 25), api.ErrArg}, {"\x7f", api.ErrArg}}
	values := []part[api.Item]{
		{number(1), api.OK}, {nested(7, number(1)), api.OK}, {zeros(20_000), api.ErrFull}, {nested(7, zeros(20_000)), api.ErrFull},
		{api.Item{}, api.ErrArg}, {nested(8, number(1)), api.ErrArg}, {nested(9, number(1)), api.ErrArg},
		{list(zeros(20_000), api.Item{}), api.ErrArg}, {list(api.Item{}, zeros(20_000)), api.ErrArg}, {nested(8, zeros(20_000)), api.ErrArg}, {api.Item{Kind: api.ItemBytes, N: 1, B: make([]byte, 20_000)}, api.ErrArg},
	}
	lists := []part[[]int]{{nil, api.OK}, {make([]int, 1000), api.OK}, {make([]int, 1001), api.ErrArg}, {make([]int, 5000), api.ErrArg}}
	first := func(all ...api.Errno) api.Errno {
		for _, e := range []api.Errno{api.ErrArg, api.ErrFull} {
			if slices.Contains(all, e) {
				return e
			}
		}
		return api.OK
	}
	for _, x := range states {
		for _, s := range names {
			for k, i := range values {
				got, e := Absorb(x.value, s.value, i.value)
				if want := first(x.e, s.e, i.e); e != want || e != api.OK && got != (api.Transcript{}) {
					t.Errorf("%v, %q, item %d: %v, %d, not %d", x.value, s.value, k, got, e, want)
				}
			}
			for k, l := range lists {
				got, e := Ints(x.value, s.value, l.value)
				if want := first(x.e, s.e, l.e); e != want || e != api.OK && got != (api.Transcript{}) {
					t.Errorf("%v, %q, list %d: %v, %d, not %d", x.value, s.value, k, got, e, want)
				}
			}
		}
	}
}

// P8.5: equal calls have equal results, whatever was called between them.
func TestEqualCalls(t *testing.T) {
	type results struct {
		begun, absorbed, ints, next api.Transcript
		challenge                   int
		digest                      api.Hash
		e                           [5]api.Errno
	}
	call := func(x api.Transcript, s string, i api.Item, l []int, q int) (r results) {
		r.begun, r.e[0] = New(s)
		r.absorbed, r.e[1] = Absorb(x, s, i)
		r.ints, r.e[2] = Ints(x, s, l)
		r.next, r.challenge, r.e[3] = Challenge(x, s, q)
		r.digest, r.e[4] = Digest(x, s)
		return r
	}
	for _, x := range append(transcripts(), wrongTranscripts()...) {
		for _, s := range []string{"a", "", strings.Repeat("x", 24), "a b"} {
			for _, q := range []int{7, 1, api.MaxWord - 1} {
				a := call(x, s, list(number(1), text(2)), []int{1, 2}, q)
				b := call(x, s, list(number(1), text(2)), []int{1, 2}, q)
				if a != b {
					t.Errorf("%v, %q: %v and %v", x, s, a, b)
				}
			}
		}
	}
}

// P8.5: an item is the same if its empty slices are not nil, or if its memory is that of others.
func TestSameItems(t *testing.T) {
	x := api.Transcript{State: api.Hash{4}}
	for _, kind := range []int{api.ItemInt, api.ItemBytes, api.ItemList} {
		a, e := Absorb(x, "a", api.Item{Kind: kind})
		b, f := Absorb(x, "a", api.Item{Kind: kind, B: make([]byte, 0, 4), L: make([]api.Item, 0, 4)})
		if e != api.OK || f != api.OK || a != b {
			t.Errorf("kind %d: %v %d, %v %d", kind, a, e, b, f)
		}
	}
	one := text(1, 2)
	got, e := Absorb(x, "a", list(one, list(one, one)))
	checkAbsorb(t, "shared", got, e, absorbed(x, "a", list(text(1, 2), list(text(1, 2), text(1, 2)))), api.OK)
}

// P8.5: the order of items matters, and so do their labels, and how they are put together.
func TestOrder(t *testing.T) {
	type step struct {
		label string
		l     []int
	}
	seen := map[api.Hash]int{}
	for k, steps := range [][]step{
		{}, {{"a", nil}}, {{"a", nil}, {"a", nil}}, {{"b", nil}, {"a", nil}}, {{"a", nil}, {"b", nil}},
		{{"a", []int{1}}, {"a", []int{2}}}, {{"a", []int{2}}, {"a", []int{1}}}, {{"a", []int{1, 2}}}, {{"a", []int{2, 1}}},
		{{"a", []int{1}}, {"b", []int{2}}}, {{"b", []int{2}}, {"a", []int{1}}}, {{"b", []int{1}}, {"a", []int{2}}}, {{"a", []int{2}}, {"b", []int{1}}},
		{{"ab", []int{1, 2}}}, {{"aa", nil}}, {{"a", []int{1}}}, {{"a", []int{1}}, {"a", nil}}, {{"a", nil}, {"a", []int{1}}},
		{{"a", []int{1}}, {"a", []int{1}}}, {{"a", []int{1}}, {"a", []int{1}}, {"a", []int{1}}}, {{"a", []int{1, 1}}}, {{"a", []int{1, 1, 1}}},
	} {
		x, e := New("order")
		for _, s := range steps {
			if e == api.OK {
				x, e = Ints(x, s.label, s.l)
			}
		}
		if e != api.OK || x.Count != len(steps) {
			t.Errorf("steps %d: %v, %d", k, x, e)
		}
		if other, ok := seen[x.State]; ok {
			t.Errorf("steps %d and %d have the same state", other, k)
		}
		seen[x.State] = k
	}
}

// P8.5: states, labels, and items that differ have different states and digests; what begins, absorbs, asks, and digests is kept apart.
func TestDifferent(t *testing.T) {
	seen := map[api.Hash]string{}
	add := func(h api.Hash, e api.Errno, what string) {
		t.Helper()
		if other, ok := seen[h]; ok || e != api.OK {
			t.Errorf("%s and %s have the same digest, or error %d", what, other, e)
		}
		seen[h] = what
	}
	states := []api.Transcript{{}, {State: api.Hash{1}}, {State: api.Hash{31: 1}}, {State: api.Hash{'a'}}}
	for _, s := range labels() {
		x, e := New(s)
		add(x.State, e, "New "+s)
		states = append(states[:4:4], x)
		for k, x := range states {
			h, e := Digest(x, s)
			add(h, e, "Digest "+s)
			for n, i := range items() {
				if n > 12 && k > 0 {
					break
				}
				next, e := Absorb(x, s, i)
				add(next.State, e, "Absorb "+s)
			}
		}
	}
}

// P8.5: the Count is no part of the frame.
func TestCountIsNotHashed(t *testing.T) {
	for _, n := range []int{1, 500, api.MaxList - 1} {
		a, b := api.Transcript{State: api.Hash{9}}, api.Transcript{State: api.Hash{9}, Count: n}
		x, _ := Absorb(a, "a", number(1))
		y, _ := Absorb(b, "a", number(1))
		h, _ := Digest(a, "a")
		k, _ := Digest(b, "a")
		_, c, _ := Challenge(a, "a", 1<<60)
		_, d, _ := Challenge(b, "a", 1<<60)
		if x.State != y.State || h != k || c != d || x.Count != 1 || y.Count != n+1 {
			t.Errorf("Count %d", n)
		}
	}
}

// P8.5: the challenge for q is the remainder modulo q of that for each multiple of q.
func TestMultiples(t *testing.T) {
	r := rand.New(rand.NewSource(7))
	for k, x := range transcripts() {
		if x.Count == api.MaxList {
			continue
		}
		for range 100 {
			q := 2 + r.Intn(1<<r.Intn(40)+5)
			m := (1 + r.Intn((api.MaxWord-1)/q)) * q
			_, c, e := Challenge(x, "law", q)
			_, d, f := Challenge(x, "law", m)
			if e != api.OK || f != api.OK || d%q != c || d >= m || d < 0 {
				t.Errorf("transcript %d, %d and %d: %d %d, %d %d", k, q, m, c, e, d, f)
			}
		}
	}
}

// P8.3: challenges are spread over all numbers from 0 to q - 1.
func TestSpread(t *testing.T) {
	for _, q := range []int{2, 3, 7, 11} {
		seen := make([]int, q)
		x, _ := New("spread")
		for range 500 {
			next, c, e := Challenge(x, "c", q)
			if e != api.OK || c < 0 || c >= q {
				t.Fatal(c, e)
			}
			seen[c]++
			x = next
		}
		if slices.Min(seen) == 0 {
			t.Errorf("%d: %v", q, seen)
		}
	}
}

// P8.5: the Count is the number of items that were absorbed, up to MaxList of them.
func TestCount(t *testing.T) {
	x, e := New("count")
	for n := range api.MaxList {
		if e != api.OK || x.Count != n {
			t.Fatalf("after %d items: %d, %d", n, x.Count, e)
		}
		switch n % 3 {
		case 0:
			x, e = Absorb(x, "a", number(n))
		case 1:
			x, e = Ints(x, "b", []int{n})
		case 2:
			x, _, e = Challenge(x, "c", 2+n)
		}
	}
	if e != api.OK || x.Count != api.MaxList {
		t.Fatalf("in the end: %d, %d", x.Count, e)
	}
	if _, e := Digest(x, "d"); e != api.OK {
		t.Errorf("digest: %d", e)
	}
	a, e := Absorb(x, "a", number(1))
	b, f := Ints(x, "b", nil)
	c, n, g := Challenge(x, "c", 7)
	if e != api.ErrFull || f != api.ErrFull || g != api.ErrFull || a != (api.Transcript{}) || b != a || c != a || n != 0 {
		t.Error(a, e, b, f, c, n, g)
	}
}

// copied returns a copy of an item.
func copied(i api.Item) api.Item {
	i.B = bytes.Clone(i.B)
	i.L = slices.Clone(i.L)
	for k, x := range i.L {
		i.L[k] = copied(x)
	}
	return i
}

// P8.2: arguments are not modified, not even beyond their lengths.
func TestArguments(t *testing.T) {
	for k, i := range append(items(), nested(9, text(1)), many(1001, text(2)), list(api.Item{Kind: 4, B: []byte{1}})) {
		roomy := i
		roomy.B = append(make([]byte, 0, len(i.B)+40), i.B...)
		roomy.L = append(make([]api.Item, 0, len(i.L)+40), i.L...)
		before := copied(roomy)
		for _, x := range []api.Transcript{{}, {Count: api.MaxList}, {Count: -1}} {
			was := x
			Absorb(x, "a", roomy)
			Challenge(x, "a", 7)
			Digest(x, "a")
			if x != was {
				t.Errorf("transcript %v changed", was)
			}
		}
		if !reflect.DeepEqual(roomy, before) {
			t.Errorf("item %d changed", k)
		}
		if b := roomy.B[:cap(roomy.B)]; !bytes.Equal(b[len(i.B):], make([]byte, len(b)-len(i.B))) {
			t.Errorf("bytes behind the item %d changed", k)
		}
		for _, x := range roomy.L[:cap(roomy.L)][len(i.L):] {
			if !reflect.DeepEqual(x, api.Item{}) {
				t.Errorf("items behind the item %d changed", k)
			}
		}
	}
	l := []int{3, 1, 2, 0, 0, 0}
	Ints(api.Transcript{}, "a", l[:3])
	if !slices.Equal(l, []int{3, 1, 2, 0, 0, 0}) {
		t.Errorf("numbers changed: %v", l)
	}
}

// P8.2: a transcript does not depend on what becomes of the item that it absorbed.
func TestMemory(t *testing.T) {
	i := list(text(1, 2), number(3))
	l := []int{1, 2}
	x, _ := Absorb(api.Transcript{}, "a", i)
	y, _ := Ints(api.Transcript{}, "a", l)
	a, b := x, y
	i.L[0].B[0], i.L[1].N, l[0] = 7, 7, 7
	if x != a || y != b || x != absorbed(api.Transcript{}, "a", list(text(1, 2), number(3))) {
		t.Error("a transcript changed")
	}
}
