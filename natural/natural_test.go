package natural

import (
	"math"
	"math/big"
	"math/rand"
	"slices"
	"testing"

	"specie/api"
)

const full = math.MaxUint32 // the greatest word

// limit is the least number with too many words.
var limit = new(big.Int).Lsh(big.NewInt(1), 32*api.MaxWords)

// nat returns the number with some words.
func nat(w ...uint32) api.Nat { return api.Nat{W: w} }

// power returns 2 to the power of n, plus d.
func power(n uint, d int64) *big.Int {
	z := new(big.Int).Lsh(big.NewInt(1), n)
	return z.Add(z, big.NewInt(d))
}

// value returns the sum of the words times their values, as the chapter defines it.
func value(n api.Nat) *big.Int {
	z := new(big.Int)
	for i := len(n.W) - 1; i >= 0; i-- {
		z.Lsh(z, 32)
		z.Add(z, big.NewInt(int64(n.W[i])))
	}
	return z
}

// number returns the valid number with a value, which may be too big.
func number(x *big.Int) api.Nat {
	var n api.Nat
	low := new(big.Int)
	for z := new(big.Int).Set(x); z.Sign() > 0; z.Rsh(z, 32) {
		n.W = append(n.W, uint32(low.And(z, big.NewInt(full)).Uint64()))
	}
	return n
}

// invalid has numbers whose last word is 0, and numbers with too many words.
func invalid() []api.Nat {
	last := slices.Repeat([]uint32{full}, api.MaxWords)
	last[api.MaxWords-1] = 0
	many := slices.Repeat([]uint32{1}, api.MaxWords+1)
	ends := slices.Repeat([]uint32{1}, api.MaxWords+1)
	ends[api.MaxWords] = 0
	return []api.Nat{nat(0), nat(0, 0), nat(1, 0), nat(full, 0), nat(0, 1, 0), {W: last}, {W: many}, {W: ends}, {W: make([]uint32, 2000)}}
}

// samples has numbers around powers of 2, and numbers of all lengths, many of whose words are the least, the greatest, or around the half.
func samples() []api.Nat {
	var all []api.Nat
	for _, n := range []uint{0, 1, 2, 31, 32, 33, 61, 63, 64, 65, 96, 128, 1023, 1024, 2015, 2016, 2017, 2047, 2048} {
		for _, d := range []int64{-2, -1, 0, 1, 2} {
			if z := power(n, d); z.Sign() >= 0 && z.Cmp(limit) < 0 {
				all = append(all, number(z))
			}
		}
	}
	r := rand.New(rand.NewSource(2))
	ends := []uint32{0, 1, full, full - 1, 1 << 31, 1<<31 - 1, 1<<31 + 1}
	for _, size := range []int{1, 2, 3, 4, 5, 8, 16, 31, 32, 33, 62, 63, 64} {
		for range 4 {
			var n api.Nat
			for range size {
				n.W = append(n.W, ends[r.Intn(len(ends))], r.Uint32())
				n.W = n.W[:len(n.W)-r.Intn(2)]
			}
			n.W = n.W[:size]
			n.W[size-1] = max(n.W[size-1], 1)
			all = append(all, n)
		}
	}
	return all
}

// forPairs calls f with all pairs of samples.
func forPairs(f func(a, b api.Nat)) {
	all := samples()
	for _, a := range all {
		for _, b := range all {
			f(a, b)
		}
	}
}

// same checks a number that is expected.
func same(t *testing.T, name string, n api.Nat, e api.Errno, want *big.Int, args ...any) {
	t.Helper()
	if e != api.OK || !slices.Equal(n.W, number(want).W) {
		t.Errorf("%s%v is %v, %d, not %v", name, args, n, e, number(want))
	}
}

// fails checks an error, with which the number is zero.
func fails(t *testing.T, name string, n api.Nat, e, want api.Errno, args ...any) {
	t.Helper()
	if e != want || len(n.W) != 0 {
		t.Errorf("%s%v is %v, %d, not the error %d", name, args, n, e, want)
	}
}

// binary has the shape of Add, Sub, and Mul.
type binary func(a, b api.Nat) (api.Nat, api.Errno)

// P2.1: at most 64 words, of which the last one is not 0.
func TestValid(t *testing.T) {
	for _, n := range append(samples(), nat(), nat(1), nat(0, 1), number(power(2048, -1))) {
		if !Valid(n) {
			t.Error(n, "is valid")
		}
	}
	for _, n := range invalid() {
		if Valid(n) {
			t.Error(n, "is not valid")
		}
	}
}

// P2.1: natural numbers of ints, and back.
func TestInts(t *testing.T) {
	for _, x := range []int{0, 1, 2, full - 1, full, 1 << 32, 1<<32 + 1, 1 << 61, 1 << 62, math.MaxInt - 1, math.MaxInt} {
		n, e := Of(x)
		same(t, "Of", n, e, big.NewInt(int64(x)), x)
		if y, e := Int(n); y != x || e != api.OK {
			t.Error("Int", n, y, e)
		}
	}
	for _, x := range []int{-1, -2, -full, math.MinInt, math.MinInt + 1} {
		n, e := Of(x)
		fails(t, "Of", n, e, api.ErrRange, x)
	}
	for _, n := range samples() {
		want, wantE := 0, api.ErrBig
		if z := value(n); z.IsInt64() {
			want, wantE = int(z.Int64()), api.OK
		}
		if x, e := Int(n); x != want || e != wantE {
			t.Error("Int", n, x, e)
		}
	}
	for _, n := range []api.Nat{nat(0, 1<<31), nat(full, full), nat(0, 0, 1), number(power(2048, -1))} {
		if x, e := Int(n); x != 0 || e != api.ErrBig {
			t.Error("Int", n, x, e)
		}
	}
	for _, n := range invalid() {
		if x, e := Int(n); x != 0 || e != api.ErrArg {
			t.Error("Int", n, x, e)
		}
	}
}

// P2.2: numbers are compared by their values; those that are not valid are not compared.
func TestCompare(t *testing.T) {
	forPairs(func(a, b api.Nat) {
		if got, want := Compare(a, b), value(a).Cmp(value(b)); got != want {
			t.Error("Compare", a, b, got, want)
		}
	})
	for _, a := range invalid() {
		for _, b := range append(invalid(), samples()...) {
			if Compare(a, b) != 0 || Compare(b, a) != 0 {
				t.Error("Compare", a, b)
			}
		}
	}
}

// P2.3: sums, differences, and products.
func TestSumsDifferencesProducts(t *testing.T) {
	for _, c := range []struct {
		name string
		f    binary
		want func(z, x, y *big.Int) *big.Int
	}{{"Add", Add, (*big.Int).Add}, {"Sub", Sub, (*big.Int).Sub}, {"Mul", Mul, (*big.Int).Mul}} {
		reached := map[api.Errno]bool{}
		forPairs(func(a, b api.Nat) {
			z := c.want(new(big.Int), value(a), value(b))
			n, e := c.f(a, b)
			reached[e] = true
			switch {
			case z.Sign() < 0:
				fails(t, c.name, n, e, api.ErrRange, a, b)
			case z.Cmp(limit) >= 0:
				fails(t, c.name, n, e, api.ErrBig, a, b)
			default:
				same(t, c.name, n, e, z, a, b)
			}
		})
		if !reached[api.OK] || len(reached) != 2 {
			t.Error(c.name, "has the results", reached)
		}
		for _, a := range invalid() {
			for _, b := range append(invalid(), nat(), nat(1), number(power(2048, -1))) {
				n, e := c.f(a, b)
				fails(t, c.name, n, e, api.ErrArg, a, b)
				n, e = c.f(b, a)
				fails(t, c.name, n, e, api.ErrArg, b, a)
			}
		}
	}
}

// P2.3: where a result begins to be too big, or negative.
func TestBoundsOfSumsDifferencesProducts(t *testing.T) {
	greatest := number(power(2048, -1))
	n, e := Add(number(power(2048, -2)), nat(1))
	same(t, "Add", n, e, power(2048, -1))
	n, e = Add(greatest, nat())
	same(t, "Add", n, e, power(2048, -1))
	n, e = Add(greatest, nat(1))
	fails(t, "Add", n, e, api.ErrBig)
	n, e = Add(number(power(2047, 0)), number(power(2047, 0)))
	fails(t, "Add", n, e, api.ErrBig)
	n, e = Sub(greatest, greatest)
	same(t, "Sub", n, e, new(big.Int))
	n, e = Sub(nat(), nat(1))
	fails(t, "Sub", n, e, api.ErrRange)
	n, e = Sub(number(power(2048, -2)), greatest)
	fails(t, "Sub", n, e, api.ErrRange)
	n, e = Mul(number(power(1023, 0)), number(power(1024, 0)))
	same(t, "Mul", n, e, power(2047, 0))
	n, e = Mul(number(power(1024, 0)), number(power(1024, 0)))
	fails(t, "Mul", n, e, api.ErrBig)
	n, e = Mul(number(power(1024, -1)), number(power(1024, 1))) // 2^2048 - 1
	same(t, "Mul", n, e, power(2048, -1))
	n, e = Mul(greatest, greatest)
	fails(t, "Mul", n, e, api.ErrBig)
	n, e = Mul(greatest, nat())
	same(t, "Mul", n, e, new(big.Int))
	n, e = Mul(nat(full, full), nat(full, full))
	same(t, "Mul", n, e, value(nat(1, 0, 4294967294, 4294967295)))
}

// P2.4: quotients and remainders.
func TestDiv(t *testing.T) {
	forPairs(func(a, b api.Nat) {
		q, r, e := Div(a, b)
		if len(b.W) == 0 {
			fails(t, "Div", q, e, api.ErrZero, a, b)
			fails(t, "Div", r, e, api.ErrZero, a, b)
			return
		}
		z, m := new(big.Int).DivMod(value(a), value(b), new(big.Int))
		same(t, "quotient", q, e, z, a, b)
		same(t, "remainder", r, e, m, a, b)
	})
	for _, a := range invalid() {
		for _, b := range append(invalid(), nat(), nat(1), number(power(2048, -1))) {
			q, r, e := Div(a, b)
			fails(t, "Div", q, e, api.ErrArg, a, b)
			fails(t, "Div", r, e, api.ErrArg, a, b)
			q, r, e = Div(b, a)
			fails(t, "Div", q, e, api.ErrArg, b, a)
			fails(t, "Div", r, e, api.ErrArg, b, a)
		}
	}
	q, r, e := Div(number(big.NewInt(1e10)), nat(3))
	same(t, "quotient", q, e, big.NewInt(3333333333))
	same(t, "remainder", r, e, big.NewInt(1))
}

// P2.4: dividends of the form q b + r, around whose quotients a guess of a digit by the highest words fails.
func TestDivOfMultiples(t *testing.T) {
	for _, b := range samples() {
		for _, q := range samples() {
			for _, d := range []int64{-1, 0, 1} {
				a := new(big.Int).Mul(value(q), value(b))
				if a.Add(a, big.NewInt(d)); len(b.W) == 0 || a.Sign() < 0 || a.Cmp(limit) >= 0 {
					continue
				}
				z, m := new(big.Int).DivMod(a, value(b), new(big.Int))
				x, y, e := Div(number(a), b)
				same(t, "quotient", x, e, z, a, b)
				same(t, "remainder", y, e, m, a, b)
			}
		}
	}
}

// shifted returns a 2^n, rounded down.
func shifted(a *big.Int, n int) *big.Int {
	if n < 0 {
		return new(big.Int).Rsh(a, uint(-n))
	}
	return new(big.Int).Lsh(a, uint(n))
}

// P2.5: shifts to both sides.
func TestShift(t *testing.T) {
	counts := []int{-10000, -9999, -2049, -2048, -2047, -1025, -96, 96, 1025, 2016, 2046, 2047, 2048, 2049, 9999, 10000}
	for n := -66; n <= 66; n++ {
		counts = append(counts, n)
	}
	for _, a := range samples() {
		for _, n := range counts {
			x, e := Shift(a, n)
			if z := shifted(value(a), n); z.Cmp(limit) >= 0 {
				fails(t, "Shift", x, e, api.ErrBig, a, n)
			} else {
				same(t, "Shift", x, e, z, a, n)
			}
		}
		for _, n := range []int{-10001, 10001, math.MinInt, math.MaxInt, -1 << 32, 1 << 32} { // where a is great, it would be too big as well
			x, e := Shift(a, n)
			fails(t, "Shift", x, e, api.ErrRange, a, n)
		}
	}
	for _, a := range invalid() {
		for _, n := range []int{0, 1, -1, -10000, 10000, -10001, 10001, math.MinInt, math.MaxInt} {
			x, e := Shift(a, n)
			fails(t, "Shift", x, e, api.ErrArg, a, n)
		}
	}
	for _, n := range []int{-10000, -1, 0, 1, 2048, 10000} {
		x, e := Shift(nat(), n)
		same(t, "Shift", x, e, new(big.Int), n)
	}
	x, e := Shift(nat(1), 2047)
	same(t, "Shift", x, e, power(2047, 0))
	x, e = Shift(nat(1), 2048)
	fails(t, "Shift", x, e, api.ErrBig)
	x, e = Shift(nat(1), 10000)
	fails(t, "Shift", x, e, api.ErrBig)
}

// P2.6: the number of bits, and each of them.
func TestBits(t *testing.T) {
	for _, a := range samples() {
		if Bits(a) != value(a).BitLen() {
			t.Error("Bits", a, Bits(a))
		}
		for i := range 32*api.MaxWords + 40 {
			if Bit(a, i) != (value(a).Bit(i) == 1) {
				t.Error("Bit", a, i)
			}
		}
		for _, i := range []int{-1, -2, -31, -32, -33, math.MinInt, math.MinInt + 1, math.MaxInt, 1 << 32} {
			if Bit(a, i) {
				t.Error("Bit", a, i)
			}
		}
	}
	for _, a := range invalid() {
		if Bits(a) != 0 {
			t.Error("Bits", a)
		}
		for _, i := range []int{-1, 0, 1, 31, 32, 33, 2047, 2048} {
			if Bit(a, i) {
				t.Error("Bit", a, i)
			}
		}
	}
	if Bits(nat()) != 0 || Bits(nat(1)) != 1 || Bits(nat(0, 1)) != 33 || Bits(number(power(2048, -1))) != 2048 {
		t.Error("Bits")
	}
}

// cleared overwrites all words of a number, also those beyond its length.
func cleared(n api.Nat) {
	for i := range n.W[:cap(n.W)] {
		n.W[:cap(n.W)][i] = 7
	}
}

// P2.1, P2.3 to P2.5: arguments stay as they are, and results have words of their own.
func TestMemory(t *testing.T) {
	calls := map[string]func(a, b api.Nat) (x, y api.Nat){
		"Add":   func(a, b api.Nat) (x, y api.Nat) { x, _ = Add(a, b); return },
		"Sub":   func(a, b api.Nat) (x, y api.Nat) { x, _ = Sub(a, b); return },
		"Mul":   func(a, b api.Nat) (x, y api.Nat) { x, _ = Mul(a, b); return },
		"Div":   func(a, b api.Nat) (x, y api.Nat) { x, y, _ = Div(a, b); return },
		"left":  func(a, b api.Nat) (x, y api.Nat) { x, _ = Shift(a, 35); y, _ = Shift(b, 64); return },
		"right": func(a, b api.Nat) (x, y api.Nat) { x, _ = Shift(a, -35); y, _ = Shift(b, -64); return },
		"none":  func(a, b api.Nat) (x, y api.Nat) { x, _ = Shift(a, 0); y, _ = Shift(b, 0); return },
		"others": func(a, b api.Nat) (x, y api.Nat) {
			Valid(a)
			Int(a)
			Compare(a, b)
			Bits(a)
			Bit(b, 1)
			return
		},
	}
	all := []api.Nat{nat(), nat(1), nat(5, 7), nat(0, 0, 1), nat(full, full, full, full), number(power(1024, -1)), number(power(2048, -1)), nat(1, 0)}
	for name, f := range calls {
		for _, a := range all {
			for _, b := range all {
				wordsA, wordsB := slices.Clone(a.W), slices.Clone(b.W)
				x, y := f(a, b)
				wordsY := slices.Clone(y.W)
				cleared(x)
				if !slices.Equal(wordsY, y.W) {
					t.Error(name, "has results that share memory", wordsA, wordsB)
				}
				cleared(y)
				if !slices.Equal(wordsA, a.W) || !slices.Equal(wordsB, b.W) {
					t.Fatal(name, "changed an argument, or shares it", wordsA, wordsB)
				}
			}
		}
	}
}

// P2.3, P2.4: words beyond the length of an argument do not matter, and stay.
func TestCapacity(t *testing.T) {
	words := []uint32{3, 4, 5, 6, 7, 8}
	a, b := api.Nat{W: words[:2]}, api.Nat{W: words[1:2]}
	n, e := Add(a, b)
	same(t, "Add", n, e, value(nat(7, 4)))
	n, e = Sub(a, b)
	same(t, "Sub", n, e, value(nat(full, 3)))
	n, e = Mul(a, b)
	same(t, "Mul", n, e, value(nat(12, 16)))
	n, e = Shift(a, 32)
	same(t, "Shift", n, e, value(nat(0, 3, 4)))
	q, r, e := Div(a, b)
	same(t, "quotient", q, e, value(nat(0, 1)))
	same(t, "remainder", r, e, value(nat(3)))
	if !slices.Equal(words, []uint32{3, 4, 5, 6, 7, 8}) {
		t.Error("words beyond an argument were changed", words)
	}
}

// equal reports whether two calls have the same results.
func equal(x api.Nat, e api.Errno, y api.Nat, f api.Errno) bool {
	return e == f && slices.Equal(x.W, y.W)
}

// P2.7: sums and products may be exchanged, subtraction undoes addition, and division undoes multiplication.
func TestLawsOfPairs(t *testing.T) {
	forPairs(func(a, b api.Nat) {
		sum, e := Add(a, b)
		if other, f := Add(b, a); !equal(sum, e, other, f) {
			t.Error("sums", a, b)
		}
		if back, f := Sub(sum, b); e == api.OK && !equal(back, f, a, api.OK) {
			t.Error("a difference does not undo a sum", a, b)
		}
		product, e := Mul(a, b)
		if other, f := Mul(b, a); !equal(product, e, other, f) {
			t.Error("products", a, b)
		}
		q, r, f := Div(a, b)
		if f != api.OK {
			return
		}
		back, e := Mul(q, b)
		if e != api.OK || Compare(r, b) != -1 {
			t.Error("quotient", a, b)
		}
		if back, e = Add(back, r); !equal(back, e, a, api.OK) {
			t.Error("a is not q b + r", a, b)
		}
	})
}

// sheet computes until something is too big.
type sheet struct{ big bool }

func (s *sheet) do(f binary, a, b api.Nat) api.Nat {
	n, e := f(a, b)
	s.big = s.big || e != api.OK
	return n
}

func (s *sheet) add(a, b api.Nat) api.Nat { return s.do(Add, a, b) }
func (s *sheet) mul(a, b api.Nat) api.Nat { return s.do(Mul, a, b) }

// P2.7: sums and products may be grouped, and multiplication distributes.
func TestLawsOfTriples(t *testing.T) {
	laws := []struct {
		name string
		f    func(s *sheet, a, b, c api.Nat) (x, y api.Nat)
	}{
		{"sums", func(s *sheet, a, b, c api.Nat) (x, y api.Nat) {
			return s.add(s.add(a, b), c), s.add(a, s.add(b, c))
		}},
		{"products", func(s *sheet, a, b, c api.Nat) (x, y api.Nat) {
			return s.mul(s.mul(a, b), c), s.mul(a, s.mul(b, c))
		}},
		{"distribution", func(s *sheet, a, b, c api.Nat) (x, y api.Nat) {
			return s.mul(a, s.add(b, c)), s.add(s.mul(a, b), s.mul(a, c))
		}},
	}
	r := rand.New(rand.NewSource(7))
	all := samples()
	for _, law := range laws {
		small := 0
		for range 10000 {
			a, b, c := all[r.Intn(len(all))], all[r.Intn(len(all))], all[r.Intn(len(all))]
			var s sheet
			x, y := law.f(&s, a, b, c)
			if s.big {
				continue
			}
			small++
			if !slices.Equal(x.W, y.W) {
				t.Error(law.name, a, b, c)
			}
		}
		if small < 1000 {
			t.Error(law.name, "were tried only", small, "times")
		}
	}
}

// P2.7: shifts are products and quotients by powers of 2.
func TestLawsOfShifts(t *testing.T) {
	for _, a := range samples() {
		for _, n := range []int{0, 1, 5, 31, 32, 33, 64, 100, 1000, 1024, 2047} {
			two := number(power(uint(n), 0))
			x, e := Shift(a, n)
			if y, f := Mul(a, two); !equal(x, e, y, f) {
				t.Error("product", a, n)
			}
			x, e = Shift(a, -n)
			if y, _, f := Div(a, two); !equal(x, e, y, f) {
				t.Error("quotient", a, n)
			}
		}
	}
}

// P2.7: natural numbers of ints behave as ints do.
func TestLawsOfInts(t *testing.T) {
	ints := []int{0, 1, 2, 3, 7, 10, 1000, 1<<16 - 1, 1 << 31, 1<<31 - 1}
	expect := func(name string, n api.Nat, e api.Errno, want int) {
		t.Helper()
		if x, f := Int(n); e != api.OK || f != api.OK || x != want {
			t.Error(name, n, e, x, f, want)
		}
	}
	for _, x := range ints {
		for _, y := range ints {
			a, _ := Of(x)
			b, _ := Of(y)
			n, e := Add(a, b)
			expect("Add", n, e, x+y)
			n, e = Mul(a, b)
			expect("Mul", n, e, x*y)
			n, e = Sub(a, b)
			if x < y {
				fails(t, "Sub", n, e, api.ErrRange, x, y)
			} else {
				expect("Sub", n, e, x-y)
			}
			if (Compare(a, b) < 0) != (x < y) || (Compare(a, b) == 0) != (x == y) {
				t.Error("Compare", x, y)
			}
			if y > 0 {
				q, r, e := Div(a, b)
				expect("quotient", q, e, x/y)
				expect("remainder", r, e, x%y)
			}
		}
		for n := range 31 {
			a, _ := Of(x)
			left, e := Shift(a, n)
			expect("left", left, e, x<<n)
			right, e := Shift(a, -n)
			expect("right", right, e, x>>n)
			if Bit(a, n) != (x>>n&1 == 1) {
				t.Error("Bit", x, n)
			}
		}
	}
}
