package natform

import (
	"bytes"
	"math"
	"math/big"
	"math/rand"
	"slices"
	"strings"
	"testing"

	"specie/api"
)

const full = math.MaxUint32 // the greatest word

// nat returns the number with some words.
func nat(w ...uint32) api.Nat { return api.Nat{W: w} }

// power returns 2 to the power of n, plus d.
func power(n uint, d int64) *big.Int {
	z := new(big.Int).Lsh(big.NewInt(1), n)
	return z.Add(z, big.NewInt(d))
}

// value returns the sum of the words times their values.
func value(n api.Nat) *big.Int {
	z := new(big.Int)
	for _, w := range slices.Backward(n.W) {
		z.Lsh(z, 32)
		z.Add(z, big.NewInt(int64(w)))
	}
	return z
}

// number returns the valid number with a value, which may be too big.
func number(x *big.Int) api.Nat {
	var n api.Nat
	low := new(big.Int)
	for z := new(big.Int).Set(x); z.Sign() > 0; z.Rsh(z, 32) {
		n.W = append(n.W, uint32(low.And(z, big.NewInt(full)).Uint64()))
	}
	return n
}

// invalid has numbers whose last word is 0, and numbers with too many words.
func invalid() []api.Nat {
	last := slices.Repeat([]uint32{full}, api.MaxWords)
	last[api.MaxWords-1] = 0
	return []api.Nat{nat(0), nat(0, 0), nat(1, 0), nat(0, 1, 0), {W: last}, {W: slices.Repeat([]uint32{1}, api.MaxWords+1)}, {W: make([]uint32, 2000)}}
}

// values has the numbers up to 1,000, those around the powers of 2, 10, and 16, also beyond the greatest natural number, and numbers of all lengths.
func values() []*big.Int {
	var all []*big.Int
	for x := range int64(1001) {
		all = append(all, big.NewInt(x))
	}
	for _, n := range []uint{16, 24, 31, 32, 33, 56, 61, 63, 64, 65, 96, 128, 1000, 1023, 1024, 2015, 2016, 2017, 2040, 2044, 2047, 2048, 2049, 2052, 2080, 3000} {
		for d := int64(-8); d <= 8; d++ {
			all = append(all, power(n, d))
		}
	}
	for _, base := range []int64{10, 16} {
		for n := int64(2); n < 620; n += 3 {
			z := new(big.Int).Exp(big.NewInt(base), big.NewInt(n), nil)
			all = append(all, z, new(big.Int).Sub(z, big.NewInt(1)))
		}
	}
	r := rand.New(rand.NewSource(4))
	for n := uint(1); n <= 2100; n += 7 {
		all = append(all, new(big.Int).Rand(r, power(n, 0)))
	}
	return all
}

// fits reports whether a value is that of a natural number.
func fits(z *big.Int) bool { return z.Sign() >= 0 && z.BitLen() <= 32*api.MaxWords }

// numbers has the numbers of all values that fit.
func numbers() []api.Nat {
	var all []api.Nat
	for _, z := range values() {
		if fits(z) {
			all = append(all, number(z))
		}
	}
	return all
}

// form is one of the two forms that are strings.
type form struct {
	name  string
	write func(n api.Nat) string
	read  func(s string) (api.Nat, api.Errno)
	base  int
}

func forms() []form {
	return []form{{"Text", Text, Parse, 10}, {"Hex", Hex, ParseHex, 16}}
}

// expected returns what the promises say of a string: the only string of a number is the one that math/big writes.
func (f form) expected(s string) (*big.Int, api.Errno) {
	z, isNumber := new(big.Int).SetString(s, f.base)
	switch {
	case len(s) > 1000:
		return nil, api.ErrFull
	case !isNumber || z.Sign() < 0 || z.Text(f.base) != s:
		return nil, api.ErrForm
	case !fits(z):
		return nil, api.ErrBig
	}
	return z, api.OK
}

// expect checks a number, or the error without one.
func expect(t *testing.T, name string, n api.Nat, e api.Errno, want *big.Int, wantE api.Errno, args ...any) {
	t.Helper()
	if want == nil {
		want = new(big.Int)
	}
	if e != wantE || !slices.Equal(n.W, number(want).W) {
		t.Errorf("%s %.1200q is %v, %d, not %v, %d", name, args, n, e, number(want), wantE)
	}
}

// shortest returns the bytes of a value without leading zeros.
func shortest(n api.Nat) []byte { return value(n).Bytes() }

// P4.1: the strings of all numbers; none for what is not valid.
func TestStrings(t *testing.T) {
	for _, f := range forms() {
		for _, n := range numbers() {
			if got, want := f.write(n), value(n).Text(f.base); got != want {
				t.Error(f.name, n, "is", got, "not", want)
			}
		}
		for _, n := range invalid() {
			if got := f.write(n); got != "" {
				t.Error(f.name, n, "is", got)
			}
		}
	}
	greatest := number(power(2048, -1))
	for _, c := range []struct {
		n         api.Nat
		text, hex string
	}{
		{nat(), "0", "0"}, {api.Nat{W: []uint32{}}, "0", "0"}, {nat(1), "1", "1"}, {nat(9), "9", "9"}, {nat(10), "10", "a"}, {nat(15), "15", "f"}, {nat(16), "16", "10"}, {nat(100), "100", "64"},
		{nat(0x23456789, 1), "4886718345", "123456789"}, {nat(0x89abcdef, 0x1234567), "81985529216486895", "123456789abcdef"}, {nat(full), "4294967295", "ffffffff"}, {nat(0, 1), "4294967296", "100000000"}, {nat(0, 0, 1), "18446744073709551616", "10000000000000000"},
		{greatest, value(greatest).String(), strings.Repeat("f", 512)},
	} {
		if text, hex := Text(c.n), Hex(c.n); text != c.text || hex != c.hex {
			t.Error("the strings of", c.n, "are", text, hex)
		}
	}
	if len(Text(greatest)) != 617 {
		t.Error("the greatest number has", len(Text(greatest)), "decimal digits")
	}
}

// P4.2, P4.3: numbers up to the greatest are read from their strings; those beyond it are too big.
func TestReadStrings(t *testing.T) {
	for _, f := range forms() {
		reached := map[api.Errno]int{}
		for _, z := range values() {
			s := z.Text(f.base)
			n, e := f.read(s)
			reached[e]++
			if fits(z) {
				expect(t, f.name, n, e, z, api.OK, s)
			} else {
				expect(t, f.name, n, e, nil, api.ErrBig, s)
			}
		}
		if reached[api.OK] < 1000 || reached[api.ErrBig] < 50 {
			t.Error(f.name, "has the results", reached)
		}
	}
	for _, c := range []struct {
		f    func(s string) (api.Nat, api.Errno)
		s    string
		want api.Nat
		e    api.Errno
	}{
		{Parse, "0", nat(), api.OK}, {ParseHex, "0", nat(), api.OK}, {Parse, "4886718345", nat(0x23456789, 1), api.OK}, {ParseHex, "123456789", nat(0x23456789, 1), api.OK}, {ParseHex, "abcdef", nat(0xabcdef), api.OK}, {Parse, "100", nat(100), api.OK}, {ParseHex, "100", nat(256), api.OK},
		{ParseHex, strings.Repeat("f", 512), number(power(2048, -1)), api.OK}, {ParseHex, "1" + strings.Repeat("0", 512), nat(), api.ErrBig}, {ParseHex, "1" + strings.Repeat("0", 511), number(power(2044, 0)), api.OK},
		{Parse, strings.Repeat("9", 616), nines(616), api.OK}, {Parse, strings.Repeat("9", 617), nat(), api.ErrBig}, {Parse, "1" + strings.Repeat("0", 617), nat(), api.ErrBig},
	} {
		n, e := c.f(c.s)
		expect(t, "the number of", n, e, value(c.want), c.e, c.s)
	}
}

// nines returns the number of some decimal digits 9.
func nines(digits int64) api.Nat {
	z := new(big.Int).Exp(big.NewInt(10), big.NewInt(digits), nil)
	return number(z.Sub(z, big.NewInt(1)))
}

// P4.2, P4.3: of all strings of two bytes only those of numbers have a form.
func TestAllShortStrings(t *testing.T) {
	for _, f := range forms() {
		count := 0
		for c := range 256 {
			for d := range 257 {
				s := string([]byte{byte(c), byte(d)})
				if d == 256 {
					s = s[:1]
				}
				n, e := f.read(s)
				want, wantE := f.expected(s)
				expect(t, f.name, n, e, want, wantE, s)
				if e == api.OK {
					count++
				}
			}
		}
		if count != f.base*f.base {
			t.Error(f.name, "reads", count, "strings of up to two bytes")
		}
	}
}

// P4.2, P4.3: strings of no form.
func TestNoForm(t *testing.T) {
	for _, f := range forms() {
		for _, s := range []string{
			"", "00", "01", "007", "0000000000", strings.Repeat("0", 1000), strings.Repeat("0", 999) + "1",
			"-", "+", "-0", "+0", "-1", "+1", "1-", "1-1", "--1", " ", " 1", "1 ", "1 1", "\t1", "1\n", "\r", "\x00", "1\x00", "\x001",
			"A", "F", "1F", "aF", "Ff", "FF", "ABCDEF", "g", "1g", "G", "z", "x", "0x", "0x1", "x1", "0b1", "0o7", "1h", "1.0", "1.", ".1", "1,000", "1_000", "_1", "1/", "1:", "1@", "1`", "nil", "inf",
			"\xff", "1\xff", "\u0661", "1\u0661", "\uff11", "\u00b2", "\u00e9", strings.Repeat("\u0661", 500),
		} {
			n, e := f.read(s)
			expect(t, f.name, n, e, nil, api.ErrForm, s)
			for _, more := range []string{"9" + s + "9", s + "1", "1" + s} { // some of which are strings of numbers again
				n, e := f.read(more)
				want, wantE := f.expected(more)
				expect(t, f.name, n, e, want, wantE, more)
			}
		}
	}
	for _, s := range []string{"a", "f", "1a", "a1", "ff", "123f", "1e3"} { // digits only of base 16
		n, e := Parse(s)
		expect(t, "Parse", n, e, nil, api.ErrForm, s)
	}
}

// P4.2, P4.3: what is too long comes first, then what has no form, then what is too big.
func TestErrorsOfStrings(t *testing.T) {
	for _, f := range forms() {
		for _, digit := range []string{"1", "9", "0", "x", "-", " ", "F", "\x00", "\xff"} {
			s := strings.Repeat(digit, 1001)
			n, e := f.read(s)
			expect(t, f.name, n, e, nil, api.ErrFull, s)
			n, e = f.read(s[:1000])
			if digit == "1" || digit == "9" {
				expect(t, f.name, n, e, nil, api.ErrBig, s[:1000])
			} else {
				expect(t, f.name, n, e, nil, api.ErrForm, s[:1000])
			}
		}
		for _, s := range []string{"1" + strings.Repeat("0", 1000), "x" + strings.Repeat("1", 1000), strings.Repeat("1", 1000) + "x", strings.Repeat("0", 1000) + "1", strings.Repeat("1", 100_000), strings.Repeat("\u0661", 501)} {
			n, e := f.read(s)
			expect(t, f.name, n, e, nil, api.ErrFull, s)
		}
		for _, at := range []int{0, 1, 500, 616, 617, 998, 999} { // one wrong byte in a number that is too big
			for _, wrong := range []byte("-+ FGgx/:@`\x00\xff") {
				s := bytes.Repeat([]byte("7"), 1000)
				s[at] = wrong
				n, e := f.read(string(s))
				expect(t, f.name, n, e, nil, api.ErrForm, s)
			}
		}
		s := "0" + strings.Repeat("7", 999)
		n, e := f.read(s)
		expect(t, f.name, n, e, nil, api.ErrForm, s)
	}
}

// P4.4: bytes of every size from just enough, and errors of the others.
func TestBytes(t *testing.T) {
	for _, n := range numbers() {
		need := len(shortest(n))
		for _, size := range []int{math.MinInt, -1000, -1, 0, 1, 2, 4, 5, 255, 256, 257, need - 1, need, need + 1, need + 4, 999, 1000, 1001, 1002, math.MaxInt32 + 1, math.MaxInt} {
			b, e := Bytes(n, size)
			var want []byte
			wantE := api.OK
			switch {
			case size < 0 || size > 1000:
				wantE = api.ErrRange
			case size < need:
				wantE = api.ErrBig
			default:
				want = value(n).FillBytes(make([]byte, size))
			}
			if e != wantE || !bytes.Equal(b, want) {
				t.Error("the", size, "bytes of", n, "are", b, e)
			}
		}
	}
	for _, c := range []struct {
		n    api.Nat
		size int
		want []byte
		e    api.Errno
	}{
		{nat(0x23456789, 1), 6, []byte{0, 1, 0x23, 0x45, 0x67, 0x89}, api.OK}, {nat(0x23456789, 1), 5, []byte{1, 0x23, 0x45, 0x67, 0x89}, api.OK}, {nat(0x23456789, 1), 4, nil, api.ErrBig},
		{nat(), 0, nil, api.OK}, {nat(), 1, []byte{0}, api.OK}, {nat(), 3, []byte{0, 0, 0}, api.OK}, {nat(), 1000, make([]byte, 1000), api.OK}, {nat(), 1001, nil, api.ErrRange}, {nat(), -1, nil, api.ErrRange},
		{nat(1), 0, nil, api.ErrBig}, {nat(255), 1, []byte{255}, api.OK}, {nat(256), 1, nil, api.ErrBig}, {nat(256), 2, []byte{1, 0}, api.OK}, {nat(0, 1), 4, nil, api.ErrBig}, {nat(0, 1), 5, []byte{1, 0, 0, 0, 0}, api.OK},
		{number(power(2048, -1)), 256, bytes.Repeat([]byte{255}, 256), api.OK}, {number(power(2048, -1)), 255, nil, api.ErrBig}, {number(power(2048, -1)), 1000, append(make([]byte, 744), bytes.Repeat([]byte{255}, 256)...), api.OK},
	} {
		if b, e := Bytes(c.n, c.size); e != c.e || !bytes.Equal(b, c.want) {
			t.Error("the", c.size, "bytes of", c.n, "are", b, e)
		}
	}
}

// P4.4: what is not valid comes before the size.
func TestBytesOfInvalid(t *testing.T) {
	for _, n := range invalid() {
		for _, size := range []int{math.MinInt, -1, 0, 1, 4, 256, 1000, 1001, math.MaxInt} {
			if b, e := Bytes(n, size); e != api.ErrArg || len(b) != 0 {
				t.Error("the", size, "bytes of", n, "are", b, e)
			}
		}
	}
}

// P4.5: numbers up to the greatest are read from their bytes, with leading zeros or without; those beyond it are too big.
func TestReadBytes(t *testing.T) {
	reached := map[api.Errno]int{}
	for _, z := range values() {
		for _, zeros := range []int{0, 1, 2, 3, 4, 256, 600, 1000 - len(z.Bytes()), 1001 - len(z.Bytes())} {
			b := append(make([]byte, zeros), z.Bytes()...)
			n, e := FromBytes(b)
			reached[e]++
			switch {
			case len(b) > 1000:
				expect(t, "FromBytes", n, e, nil, api.ErrFull, b)
			case !fits(z):
				expect(t, "FromBytes", n, e, nil, api.ErrBig, b)
			default:
				expect(t, "FromBytes", n, e, z, api.OK, b)
			}
		}
	}
	if reached[api.OK] < 5000 || reached[api.ErrBig] < 500 || reached[api.ErrFull] < 1000 {
		t.Error("FromBytes has the results", reached)
	}
}

// P4.5: the bounds of length and of value.
func TestBoundsOfBytes(t *testing.T) {
	zeros := func(n int, b ...byte) []byte { return append(make([]byte, n), b...) }
	ends := bytes.Repeat([]byte{255}, 256)
	for _, c := range []struct {
		b    []byte
		want *big.Int
		e    api.Errno
	}{
		{nil, new(big.Int), api.OK}, {[]byte{}, new(big.Int), api.OK}, {zeros(1), new(big.Int), api.OK}, {zeros(257), new(big.Int), api.OK}, {zeros(1000), new(big.Int), api.OK},
		{[]byte{0, 0, 1, 0x23, 0x45, 0x67, 0x89}, big.NewInt(4886718345), api.OK}, {zeros(999, 7), big.NewInt(7), api.OK}, {[]byte{1, 0, 0, 0, 0}, power(32, 0), api.OK},
		{ends, power(2048, -1), api.OK}, {zeros(1, ends...), power(2048, -1), api.OK}, {zeros(744, ends...), power(2048, -1), api.OK},
		{append([]byte{1}, zeros(256)...), nil, api.ErrBig}, {zeros(743, append([]byte{1}, zeros(256)...)...), nil, api.ErrBig}, {append([]byte{1}, zeros(999)...), nil, api.ErrBig}, {bytes.Repeat([]byte{255}, 1000), nil, api.ErrBig},
		{zeros(1001), nil, api.ErrFull}, {zeros(1000, 1), nil, api.ErrFull}, {bytes.Repeat([]byte{255}, 1001), nil, api.ErrFull}, {zeros(100_000), nil, api.ErrFull},
	} {
		n, e := FromBytes(c.b)
		expect(t, "FromBytes", n, e, c.want, c.e, c.b)
	}
}

// P4.1 to P4.5: arguments stay as they are, also beyond their length, and results have memory of their own.
func TestMemory(t *testing.T) {
	room := []uint32{5, 6, 7, 8, 9, 10, 11, 12}
	for _, n := range []api.Nat{{W: room[:0]}, {W: room[:1]}, {W: room[1:3]}, {W: room}} {
		Text(n)
		Hex(n)
		for _, size := range []int{0, 1, 4, 32, 1000} {
			b, _ := Bytes(n, size)
			again, _ := Bytes(n, size)
			want := slices.Clone(again)
			spoil(b)
			if !bytes.Equal(again, want) {
				t.Error("two results share their bytes:", n, size)
			}
		}
		if !slices.Equal(room, []uint32{5, 6, 7, 8, 9, 10, 11, 12}) {
			t.Fatal("an argument is changed, or shared:", room)
		}
	}
	store := []byte{0, 0, 1, 2, 3, 4, 5, 6, 7, 8, 9}
	for from := range len(store) {
		for to := from; to <= len(store); to++ {
			n, _ := FromBytes(store[from:to])
			again, _ := FromBytes(store[from:to])
			want := slices.Clone(again.W)
			spoil(n.W)
			if !slices.Equal(again.W, want) || !bytes.Equal(store, []byte{0, 0, 1, 2, 3, 4, 5, 6, 7, 8, 9}) {
				t.Fatal("words are shared, or bytes changed:", from, to, store)
			}
		}
	}
	for _, f := range forms() {
		for _, s := range []string{"0", "1", "10", strings.Repeat("1", 100)} {
			n, _ := f.read(s)
			spoil(n.W)
			n, e := f.read(s)
			want, _ := f.expected(s)
			expect(t, f.name, n, e, want, api.OK, s)
		}
	}
}

// spoil overwrites a slice and the room after it.
func spoil[T uint32 | byte](s []T) {
	s = s[:cap(s)]
	for i := range s {
		s[i] = 77
	}
}

// P4.6: each form of a number is read as this number.
func TestReadBack(t *testing.T) {
	for _, n := range numbers() {
		for _, f := range forms() {
			back, e := f.read(f.write(n))
			expect(t, f.name, back, e, value(n), api.OK, n)
		}
		need := len(shortest(n))
		for _, size := range []int{need, need + 1, need + 5, 300, 1000} {
			b, e := Bytes(n, size)
			if e != api.OK {
				t.Error("the", size, "bytes of", n, e)
			}
			back, e := FromBytes(b)
			expect(t, "the number of its bytes", back, e, value(n), api.OK, n, size)
		}
	}
}

// P4.6: strings that are read are the strings of their numbers.
func TestWriteBack(t *testing.T) {
	r := rand.New(rand.NewSource(5))
	for _, f := range forms() {
		count := 0
		for range 5000 {
			s := make([]byte, 1+r.Intn(1+r.Intn(600)))
			for i := range s {
				s[i] = "0123456789abcdef"[r.Intn(f.base)]
				if r.Intn(1000) == 0 {
					s[i] = byte(r.Intn(256))
				}
			}
			n, e := f.read(string(s))
			want, wantE := f.expected(string(s))
			expect(t, f.name, n, e, want, wantE, s)
			if e != api.OK {
				continue
			}
			count++
			if back := f.write(n); back != string(s) {
				t.Error(f.name, string(s), "is written as", back)
			}
		}
		if count < 2500 {
			t.Error(f.name, "reads only", count)
		}
	}
}

// P4.6: hexadecimal strings are the bytes, two digits for each byte, without leading zeros.
func TestHexIsBytes(t *testing.T) {
	for _, n := range numbers() {
		b, e := Bytes(n, 256)
		if e != api.OK {
			t.Error("the bytes of", n, e)
		}
		var s strings.Builder
		for _, x := range b {
			s.WriteByte("0123456789abcdef"[x/16])
			s.WriteByte("0123456789abcdef"[x%16])
		}
		want := strings.TrimLeft(s.String(), "0")
		if want == "" {
			want = "0"
		}
		if got := Hex(n); got != want {
			t.Error("Hex", n, "is", got, "not", want)
		}
	}
}
