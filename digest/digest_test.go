package digest

import (
	"bytes"
	"cmp"
	"crypto/sha256"
	"encoding/binary"
	"encoding/hex"
	"math"
	"math/big"
	"math/rand"
	"slices"
	"strings"
	"testing"

	"specie/api"
)

// lengths are those around the ends of blocks and of their padding, and some of many blocks.
func lengths() []int {
	var all []int
	for n := range 200 {
		all = append(all, n)
	}
	for _, n := range []int{256, 512, 1000, 4096, 10_000, api.MaxBytes, 65_536, 100_003} {
		all = append(all, n-9, n-8, n-1, n, n+1)
	}
	return all
}

// random returns n bytes.
func random(r *rand.Rand, n int) []byte {
	b := make([]byte, n)
	r.Read(b)
	return b
}

// hashes has digests of equal bytes, digests with one byte that is not 0, and others.
func hashes() []api.Hash {
	var all []api.Hash
	for _, x := range []byte{0, 1, 127, 128, 254, 255} {
		all = append(all, api.Hash(bytes.Repeat([]byte{x}, 32)))
		for _, i := range []int{0, 1, 7, 8, 14, 15, 16, 30, 31} {
			var h api.Hash
			h[i] = x
			all = append(all, h)
		}
	}
	r := rand.New(rand.NewSource(6))
	for range 100 {
		all = append(all, api.Hash(random(r, 32)))
	}
	return all
}

// moduli are small ones, those around the powers of 2, and others.
func moduli() []int {
	var all []int
	for m := 1; m <= 100; m++ {
		all = append(all, m)
	}
	for n := 7; n <= 60; n++ {
		all = append(all, 1<<n-1, 1<<n, 1<<n+1)
	}
	r := rand.New(rand.NewSource(7))
	for range 100 {
		all = append(all, 1+r.Intn(api.MaxWord-1))
	}
	return append(all, api.MaxWord-2, api.MaxWord-1)
}

// P6.1: the digest of bytes, by the examples of the chapter, and as another program computes it.
func TestSum(t *testing.T) {
	for text, want := range map[string]string{
		"":    "e3b0c44298fc1c149afbf4c8996fb92427ae41e4649b934ca495991b7852b855",
		"abc": "ba7816bf8f01cfea414140de5dae2223b00361a396177a9cb410ff61f20015ad",
		"abcdbcdecdefdefgefghfghighijhijkijkljklmklmnlmnomnopnopq": "248d6a61d20638b8e5c026930c3e6039a33ce45964ff2167f6ecedd419db06c1",
		strings.Repeat("a", 1_000_000):                             "cdc76e5c9914fb9281a1c7e284d73e67f1809a48a497200e046d39ccc7112cd0",
	} {
		if h := Sum([]byte(text)); hex.EncodeToString(h[:]) != want {
			t.Errorf("digest of %d bytes: %x", len(text), h)
		}
	}
	if Sum(nil) != Sum([]byte{}) {
		t.Error("no bytes")
	}
	for x := range 256 {
		b := []byte{byte(x)}
		if Sum(b) != sha256.Sum256(b) {
			t.Errorf("digest of the byte %d", x)
		}
	}
	r := rand.New(rand.NewSource(1))
	for _, n := range lengths() {
		for _, b := range [][]byte{random(r, n), make([]byte, n), bytes.Repeat([]byte{255}, n), bytes.Repeat([]byte{128}, n)} {
			if Sum(b) != sha256.Sum256(b) {
				t.Errorf("digest of %d bytes", n)
			}
		}
	}
}

// P6.1: a digest depends on the bytes alone, not on what follows them in memory.
func TestSumOfPart(t *testing.T) {
	b := random(rand.New(rand.NewSource(2)), 500)
	for n := range 200 {
		for start := range 5 {
			part := b[start : start+n]
			if Sum(part) != Sum(bytes.Clone(part)) {
				t.Errorf("digest of %d bytes from %d on", n, start)
			}
		}
	}
}

// tagged returns the tagged digest by its definition.
func tagged(tag string, b []byte) api.Hash {
	h := sha256.Sum256([]byte(tag))
	return sha256.Sum256(slices.Concat(h[:], h[:], b))
}

// P6.2: the tagged digest of tags of all lengths.
func TestTagged(t *testing.T) {
	r := rand.New(rand.NewSource(3))
	for size := 1; size <= 100; size++ {
		tag := string(random(r, size))
		for _, n := range []int{0, 1, 54, 55, 56, 63, 64, 65, 1000} {
			b := random(r, n)
			if h, e := Tagged(tag, b); e != api.OK || h != tagged(tag, b) {
				t.Errorf("tag of %d bytes, %d bytes: %x, %d", size, n, h, e)
			}
		}
	}
	for _, tag := range []string{"t", "\x00", "\xff", " ", "tag", "Tag"} {
		if h, e := Tagged(tag, nil); e != api.OK || h != tagged(tag, nil) {
			t.Errorf("tag %q: %x, %d", tag, h, e)
		}
	}
	b := random(r, 100_000)
	if h, e := Tagged("long", b); e != api.OK || h != tagged("long", b) {
		t.Errorf("many bytes: %x, %d", h, e)
	}
}

// P6.2: a tag of no bytes or of more than 100, which are counted as bytes and not as characters.
func TestTaggedRange(t *testing.T) {
	for _, tag := range []string{"", strings.Repeat("a", 101), strings.Repeat("a", 5000), strings.Repeat("é", 51)} {
		for _, b := range [][]byte{nil, {1}, make([]byte, 1000)} {
			if h, e := Tagged(tag, b); e != api.ErrRange || h != (api.Hash{}) {
				t.Errorf("tag of %d bytes: %x, %d", len(tag), h, e)
			}
		}
	}
	tag := strings.Repeat("é", 50)
	if h, e := Tagged(tag, nil); e != api.OK || h != tagged(tag, nil) {
		t.Errorf("tag of 50 characters: %x, %d", h, e)
	}
}

// stream returns n bytes of the stream of a digest by its definition.
func stream(seed api.Hash, n int) []byte {
	var b []byte
	for i := uint64(0); len(b) < n; i++ {
		h := sha256.Sum256(binary.BigEndian.AppendUint64(bytes.Clone(seed[:]), i))
		b = append(b, h[:]...)
	}
	return b[:n]
}

// P6.3: the stream of a digest, in all lengths of a few blocks, and in great ones.
func TestExpand(t *testing.T) {
	for _, seed := range hashes() {
		want := stream(seed, 200)
		for _, n := range []int{0, 1, 2, 8, 31, 32, 33, 63, 64, 65, 96, 100, 199, 200} {
			if b, e := Expand(seed, n); e != api.OK || !bytes.Equal(b, want[:n]) {
				t.Errorf("%d bytes of the stream of %x: %x, %d", n, seed, b, e)
			}
		}
	}
	seed := Sum(nil)
	for _, n := range []int{256 * 32, 256*32 + 1, 257 * 32, api.MaxBytes - 1, api.MaxBytes} {
		if b, e := Expand(seed, n); e != api.OK || !bytes.Equal(b, stream(seed, n)) {
			t.Errorf("%d bytes: %d bytes, %d", n, len(b), e)
		}
	}
}

// P6.3: lengths out of range.
func TestExpandRange(t *testing.T) {
	for _, n := range []int{-1, -2, -32, math.MinInt, api.MaxBytes + 1, api.MaxBytes + 32, 2 * api.MaxBytes, 1 << 32, math.MaxInt} {
		if b, e := Expand(Sum(nil), n); e != api.ErrRange || len(b) != 0 {
			t.Errorf("%d bytes: %x, %d", n, b, e)
		}
	}
}

// P6.3: a stream has nothing behind it, and is new memory for each call.
func TestExpandMemory(t *testing.T) {
	seed := Sum([]byte("seed"))
	for _, n := range []int{0, 1, 31, 32, 33, 64, 1000} {
		b, _ := Expand(seed, n)
		if cap(b) != n {
			t.Errorf("%d bytes have the capacity %d", n, cap(b))
		}
		clear(b)
		if c, e := Expand(seed, n); e != api.OK || !bytes.Equal(c, stream(seed, n)) {
			t.Errorf("%d bytes, after others were spoilt: %x, %d", n, c, e)
		}
	}
}

// number returns the number of a digest modulo m by its definition.
func number(h api.Hash, m int) int {
	z := new(big.Int).SetBytes(h[:16])
	return int(z.Mod(z, big.NewInt(int64(m))).Int64())
}

// P6.4: the number of a digest for moduli of all sizes.
func TestNumber(t *testing.T) {
	for _, h := range hashes() {
		for _, m := range moduli() {
			if n, e := Number(h, m); e != api.OK || n != number(h, m) {
				t.Errorf("%x modulo %d: %d, %d", h, m, n, e)
			}
		}
	}
}

// P6.4: only the first 16 bytes count.
func TestNumberBytes(t *testing.T) {
	for _, h := range hashes() {
		n, _ := Number(h, api.MaxWord-1)
		for i := 16; i < len(h); i++ {
			other := h
			other[i] ^= 255
			if x, e := Number(other, api.MaxWord-1); e != api.OK || x != n {
				t.Errorf("%x: %d, %d", other, x, e)
			}
		}
	}
}

// P6.4: moduli that are not valid.
func TestNumberArg(t *testing.T) {
	for _, m := range []int{0, -1, -2, -97, math.MinInt, math.MinInt + 1, -api.MaxWord, api.MaxWord, api.MaxWord + 1, 1 << 62, math.MaxInt} {
		for _, h := range []api.Hash{{}, Sum(nil), {15: 1}} {
			if n, e := Number(h, m); e != api.ErrArg || n != 0 {
				t.Errorf("%x modulo %d: %d, %d", h, m, n, e)
			}
		}
	}
}

// P6.5: the text of a digest, and the digest with it.
func TestText(t *testing.T) {
	all := hashes()
	for x := range 256 {
		all = append(all, api.Hash{0: byte(x), 15: byte(x), 31: byte(x)})
	}
	for _, h := range all {
		s := Hex(h)
		if s != hex.EncodeToString(h[:]) {
			t.Errorf("text of %x: %s", h, s)
		}
		if x, e := Parse(s); e != api.OK || x != h {
			t.Errorf("digest with the text %s: %x, %d", s, x, e)
		}
	}
}

// P6.5: texts of other lengths.
func TestParseLength(t *testing.T) {
	s := strings.Repeat("0123456789abcdef", 8)
	for n := range 129 {
		h, e := Parse(s[:n])
		switch {
		case n == 64 && (e != api.OK || Hex(h) != s[:64]):
			t.Errorf("64 digits: %x, %d", h, e)
		case n != 64 && (e != api.ErrForm || h != (api.Hash{})):
			t.Errorf("%d digits: %x, %d", n, h, e)
		}
	}
	for _, bad := range []string{" " + s[:64], s[:64] + "\n", "0x" + s[:64], "0x" + s[:62], strings.Repeat("0", 100_000)} {
		if h, e := Parse(bad); e != api.ErrForm || h != (api.Hash{}) {
			t.Errorf("%d bytes: %x, %d", len(bad), h, e)
		}
	}
}

// P6.5: every byte in every place is a digit, or there is no digest.
func TestParseBytes(t *testing.T) {
	good := strings.Repeat("0a9f", 16)
	for place := range good {
		for x := range 256 {
			b := []byte(good)
			b[place] = byte(x)
			h, e := Parse(string(b))
			digit := x >= '0' && x <= '9' || x >= 'a' && x <= 'f'
			switch {
			case digit && (e != api.OK || hex.EncodeToString(h[:]) != string(b)):
				t.Errorf("%q: %x, %d", b, h, e)
			case !digit && (e != api.ErrForm || h != (api.Hash{})):
				t.Errorf("%q: %x, %d", b, h, e)
			}
		}
	}
	for _, bad := range []string{strings.ToUpper(good), strings.Repeat("é", 32), strings.Repeat("\xff", 64), strings.Repeat("٣", 32), strings.Repeat("-1", 32), strings.Repeat("+1", 32), strings.Repeat("1_", 32)} {
		if h, e := Parse(bad); e != api.ErrForm || h != (api.Hash{}) {
			t.Errorf("%q: %x, %d", bad, h, e)
		}
	}
}

// P6.6: digests are compared by the first byte in which they differ.
func TestCompare(t *testing.T) {
	for _, a := range hashes() {
		for _, b := range hashes() {
			want := 0
			for i := range a {
				if a[i] != b[i] {
					want = cmp.Compare(a[i], b[i])
					break
				}
			}
			if got := Compare(a, b); got != want {
				t.Errorf("%x and %x: %d", a, b, got)
			}
		}
	}
}

// P6.6: digests that differ in one byte only, by one or by much, and digests whose later bytes say the contrary.
func TestCompareBytes(t *testing.T) {
	base := Sum([]byte("base"))
	for i := range base {
		for _, pair := range [][2]byte{{0, 1}, {127, 128}, {0, 255}, {254, 255}, {1, 128}} {
			less, more := base, base
			less[i], more[i] = pair[0], pair[1]
			for j := i + 1; j < len(base); j++ {
				if Compare(less, more) != -1 || Compare(more, less) != 1 || Compare(less, less) != 0 {
					t.Errorf("%x and %x", less, more)
				}
				less[j], more[j] = 255, 0
			}
			if Compare(less, more) != -1 || Compare(more, less) != 1 || Compare(more, more) != 0 {
				t.Errorf("%x and %x", less, more)
			}
		}
	}
}

// P6.7: a longer stream begins with a shorter one.
func TestStreamLaw(t *testing.T) {
	for _, seed := range hashes()[:20] {
		long, _ := Expand(seed, 300)
		for n := range 300 {
			if short, e := Expand(seed, n); e != api.OK || !bytes.HasPrefix(long, short) || len(short) != n {
				t.Errorf("%d bytes of %x: %x, %d", n, seed, short, e)
			}
		}
	}
}

// P6.7: a number modulo a multiple of m is congruent to that modulo m.
func TestNumberLaw(t *testing.T) {
	r := rand.New(rand.NewSource(8))
	for _, h := range hashes() {
		for range 100 {
			m := 1 + r.Intn(1<<(1+r.Intn(60)))
			multiple := m * (1 + r.Intn((api.MaxWord-1)/m))
			small, e := Number(h, m)
			great, f := Number(h, multiple)
			if e != api.OK || f != api.OK || great%m != small {
				t.Errorf("%x modulo %d and %d: %d and %d", h, m, multiple, small, great)
			}
		}
	}
}

// P6.7: texts are read as their digests, which are ordered as they are.
func TestTextLaw(t *testing.T) {
	for _, a := range hashes() {
		s := Hex(a)
		if h, e := Parse(s); e != api.OK || Hex(h) != s {
			t.Errorf("%s: %x, %d", s, h, e)
		}
		for _, b := range hashes() {
			if Compare(a, b) != cmp.Compare(s, Hex(b)) {
				t.Errorf("order of %x and %x", a, b)
			}
		}
	}
}

// Arguments are not modified, nor the memory behind them.
func TestArguments(t *testing.T) {
	memory := random(rand.New(rand.NewSource(9)), 1000)
	before := bytes.Clone(memory)
	for n := range 200 {
		b := memory[100 : 100+n]
		Sum(b)
		Tagged("tag", b)
		Tagged("", b)
		if !bytes.Equal(memory, before) {
			t.Fatalf("%d bytes were modified", n)
		}
	}
	if Sum(memory) != Sum(before) || Sum(memory) != Sum(before) {
		t.Error("a digest depends on earlier ones")
	}
}
