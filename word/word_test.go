package word

import (
	"math"
	"math/big"
	"math/rand"
	"testing"

	"specie/api"
)

const greatest = api.MaxWord - 1 // the greatest modulus, a prime

// moduli has the bounds, primes, squares, and powers of two.
var moduli = []int{1, 2, 3, 4, 9, 10, 15, 97, 1 << 20, 1<<31 - 1, 1 << 32, 1 << 60, 1<<60 + 1, greatest - 1, greatest}

// residues returns the ends of the residues of m, and some between them.
func residues(m int) []int {
	r := rand.New(rand.NewSource(int64(m)))
	l := []int{0, m / 2, m - 1}
	if m > 1 {
		l = append(l, 1, m-2+m%2)
	}
	for range 6 {
		l = append(l, r.Intn(m))
	}
	return l
}

// integers has the ends of all integers, and some between them.
var integers = []int{0, 1, -1, 2, -2, 6, -6, 12, 17, 97, -97, 1 << 20, -1 << 20, api.MaxWord, -api.MaxWord, greatest, math.MaxInt - 1, math.MaxInt, math.MinInt + 1, math.MinInt}

// binary has the shape of Add, Sub, Mul, and Pow.
type binary func(a, b, m int) (int, api.Errno)

func number(a int) *big.Int { return big.NewInt(int64(a)) }

func expect(t *testing.T, name string, args []int, got, want int, e, wantE api.Errno) {
	t.Helper()
	if got != want || e != wantE {
		t.Errorf("%s%v is %d, %d, not %d, %d", name, args, got, e, want, wantE)
	}
}

func forPairs(f func(a, b, m int)) {
	for _, m := range moduli {
		for _, a := range residues(m) {
			for _, b := range residues(m) {
				f(a, b, m)
			}
		}
	}
}

// P1.1: sums, differences, and products of residues.
func TestSumsDifferencesProducts(t *testing.T) {
	for _, c := range []struct {
		name string
		f    binary
		want func(z, x, y *big.Int) *big.Int
	}{{"Add", Add, (*big.Int).Add}, {"Sub", Sub, (*big.Int).Sub}, {"Mul", Mul, (*big.Int).Mul}} {
		forPairs(func(a, b, m int) {
			z := c.want(new(big.Int), number(a), number(b))
			z.Mod(z, number(m))
			x, e := c.f(a, b, m)
			expect(t, c.name, []int{a, b, m}, x, int(z.Int64()), e, api.OK)
		})
	}
	x, e := Mul(7, 8, 11)
	expect(t, "Mul", []int{7, 8, 11}, x, 1, e, api.OK)
}

// P1.1, P1.2, P1.5: no modulus comes before no residue, and all other results are zero.
func TestInvalidPairs(t *testing.T) {
	for _, c := range []struct {
		a, b, m int
		e       api.Errno
	}{
		{0, 0, 0, api.ErrArg}, {0, 0, -1, api.ErrArg}, {0, 0, math.MinInt, api.ErrArg}, {1, 1, api.MaxWord, api.ErrArg}, {1, 1, math.MaxInt, api.ErrArg},
		{-1, 0, 0, api.ErrArg}, {0, -1, 0, api.ErrArg}, {-1, -1, api.MaxWord, api.ErrArg}, {math.MinInt, math.MinInt, math.MinInt, api.ErrArg},
		{-1, 0, 5, api.ErrRange}, {0, -1, 5, api.ErrRange}, {5, 0, 5, api.ErrRange}, {1, 0, 1, api.ErrRange}, {greatest, 0, greatest, api.ErrRange},
		{math.MaxInt, 0, 5, api.ErrRange}, {math.MinInt, 0, 5, api.ErrRange}, {0, math.MinInt, greatest, api.ErrRange},
	} {
		for name, f := range map[string]binary{"Add": Add, "Sub": Sub, "Mul": Mul, "Pow": Pow} {
			x, e := f(c.a, c.b, c.m)
			expect(t, name, []int{c.a, c.b, c.m}, x, 0, e, c.e)
		}
		x, step, e := Solve(c.a, c.b, c.m)
		expect(t, "Solve", []int{c.a, c.b, c.m}, x, 0, e, c.e)
		expect(t, "step", []int{c.a, c.b, c.m}, step, 0, e, c.e)
	}
	for _, c := range [][3]int{{0, 5, 5}, {0, 1, 1}, {3, math.MaxInt, 5}, {0, greatest, greatest}} { // b is no residue, but a fine exponent
		for name, f := range map[string]binary{"Add": Add, "Sub": Sub, "Mul": Mul} {
			x, e := f(c[0], c[1], c[2])
			expect(t, name, c[:], x, 0, e, api.ErrRange)
		}
		x, step, e := Solve(c[0], c[1], c[2])
		expect(t, "Solve", c[:], x, 0, e, api.ErrRange)
		expect(t, "step", c[:], step, 0, e, api.ErrRange)
	}
}

// P1.2: powers, with exponents from 0 to the greatest int.
func TestPowers(t *testing.T) {
	for _, m := range moduli {
		for _, a := range residues(m) {
			for _, n := range integers {
				x, e := Pow(a, n, m)
				if n < 0 {
					expect(t, "Pow", []int{a, n, m}, x, 0, e, api.ErrRange)
					continue
				}
				want := new(big.Int).Exp(number(a), number(n), number(m))
				expect(t, "Pow", []int{a, n, m}, x, int(want.Int64()), e, api.OK)
			}
		}
	}
	for _, c := range [][4]int{{0, 0, 7, 1}, {0, 0, 1, 0}, {0, 1, 7, 0}, {2, 10, 1000, 24}, {2, 61, greatest, 1}} {
		x, e := Pow(c[0], c[1], c[2])
		expect(t, "Pow", c[:3], x, c[3], e, api.OK)
	}
}

// P1.3: any integer is reduced.
func TestReduce(t *testing.T) {
	for _, m := range moduli {
		for _, a := range integers {
			want := new(big.Int).Mod(number(a), number(m))
			x, e := Reduce(a, m)
			expect(t, "Reduce", []int{a, m}, x, int(want.Int64()), e, api.OK)
		}
	}
	for _, m := range []int{0, -1, -7, api.MaxWord, math.MaxInt, math.MinInt} {
		for _, a := range integers {
			x, e := Reduce(a, m)
			expect(t, "Reduce", []int{a, m}, x, 0, e, api.ErrArg)
		}
	}
}

// P1.3: the greatest common divisor of any two integers.
func TestGcd(t *testing.T) {
	for _, a := range integers {
		for _, b := range integers {
			want := 0
			x, y := number(a), number(b)
			if z := new(big.Int).GCD(nil, nil, x.Abs(x), y.Abs(y)); z.IsInt64() {
				want = int(z.Int64())
			}
			if got := Gcd(a, b); got != want {
				t.Errorf("Gcd(%d, %d) is %d, not %d", a, b, got, want)
			}
		}
	}
	for _, c := range [][3]int{{0, 0, 0}, {math.MinInt, 0, 0}, {0, math.MinInt, 0}, {math.MinInt, math.MinInt, 0}, {math.MinInt, 1 << 62, 1 << 62}, {12, -18, 6}, {-4, 0, 4}} {
		if got := Gcd(c[0], c[1]); got != c[2] {
			t.Errorf("Gcd(%d, %d) is %d, not %d", c[0], c[1], got, c[2])
		}
	}
}

// P1.4: inverses, where there are any.
func TestInverses(t *testing.T) {
	for _, m := range moduli {
		for _, a := range residues(m) {
			want, wantE := 0, api.OK
			if m > 1 { // big would say that nothing has an inverse modulo 1
				z := new(big.Int).ModInverse(number(a), number(m))
				if z == nil {
					wantE = api.ErrZero
				} else {
					want = int(z.Int64())
				}
			}
			x, e := Inverse(a, m)
			expect(t, "Inverse", []int{a, m}, x, want, e, wantE)
		}
	}
	for _, c := range []struct {
		a, m, x int
		e       api.Errno
	}{
		{7, 11, 8, api.OK}, {0, 1, 0, api.OK}, {0, 2, 0, api.ErrZero}, {0, greatest, 0, api.ErrZero}, {2, greatest, 1 << 60, api.OK}, {greatest - 1, greatest, greatest - 1, api.OK}, {6, 10, 0, api.ErrZero},
		{0, 0, 0, api.ErrArg}, {1, -5, 0, api.ErrArg}, {-1, api.MaxWord, 0, api.ErrArg}, {math.MinInt, math.MinInt, 0, api.ErrArg},
		{-1, 5, 0, api.ErrRange}, {5, 5, 0, api.ErrRange}, {1, 1, 0, api.ErrRange}, {math.MinInt, greatest, 0, api.ErrRange}, {math.MaxInt, 5, 0, api.ErrRange},
	} {
		x, e := Inverse(c.a, c.m)
		expect(t, "Inverse", []int{c.a, c.m}, x, c.x, e, c.e)
	}
}

// P1.5: modulo small numbers the solutions are those, and only those, that trying all residues finds.
func TestSolutionsByTrial(t *testing.T) {
	for m := 1; m <= 24; m++ {
		for a := range m {
			for b := range m {
				var all []int
				for x := range m {
					if a*x%m == b {
						all = append(all, x)
					}
				}
				x, step, e := Solve(a, b, m)
				if len(all) == 0 {
					expect(t, "Solve", []int{a, b, m}, x, 0, e, api.ErrNone)
					expect(t, "step", []int{a, b, m}, step, 0, e, api.ErrNone)
					continue
				}
				expect(t, "Solve", []int{a, b, m}, x, all[0], e, api.OK)
				expect(t, "step", []int{a, b, m}, step, m/len(all), e, api.OK)
				for i, y := range all {
					if x+i*step != y {
						t.Errorf("Solve(%d, %d, %d): %d is no step", a, b, m, y)
					}
				}
			}
		}
	}
}

// P1.5: modulo any numbers, by the greatest common divisor.
func TestSolutionsOfAnySize(t *testing.T) {
	forPairs(func(a, b, m int) {
		d := int(new(big.Int).GCD(nil, nil, number(a), number(m)).Int64())
		x, step, e := Solve(a, b, m)
		if b%d != 0 {
			expect(t, "Solve", []int{a, b, m}, x, 0, e, api.ErrNone)
			expect(t, "step", []int{a, b, m}, step, 0, e, api.ErrNone)
			return
		}
		expect(t, "step", []int{a, b, m}, step, m/d, e, api.OK)
		z := new(big.Int).Mul(number(a), number(x))
		if z.Mod(z, number(m)); int(z.Int64()) != b || x < 0 || x >= step {
			t.Errorf("Solve(%d, %d, %d) is %d with step %d", a, b, m, x, step)
		}
	})
	for _, c := range [][5]int{{6, 4, 10, 4, 5}, {0, 0, 1, 0, 1}, {0, 0, 10, 0, 1}, {0, 0, greatest, 0, 1}} {
		x, step, e := Solve(c[0], c[1], c[2])
		expect(t, "Solve", c[:3], x, c[3], e, api.OK)
		expect(t, "step", c[:3], step, c[4], e, api.OK)
	}
}

// P1.6: modulo small numbers the symbol is the product over the prime factors, as the chapter defines it.
func TestJacobiByDefinition(t *testing.T) {
	for n := 1; n <= 225; n += 2 {
		for a := range n {
			x, e := Jacobi(a, n)
			expect(t, "Jacobi", []int{a, n}, x, symbol(a, n), e, api.OK)
		}
	}
}

func symbol(a, n int) int {
	product := 1
	for p := 3; n > 1; p += 2 {
		for ; n%p == 0; n /= p {
			product *= primeSymbol(a%p, p)
		}
	}
	return product
}

func primeSymbol(a, p int) int {
	if a == 0 {
		return 0
	}
	for x := range p {
		if x*x%p == a {
			return 1
		}
	}
	return -1
}

// P1.6: modulo great numbers, and with invalid arguments.
func TestJacobi(t *testing.T) {
	for _, n := range moduli {
		for _, a := range residues(n) {
			x, e := Jacobi(a, n)
			if n%2 == 0 {
				expect(t, "Jacobi", []int{a, n}, x, 0, e, api.ErrArg)
			} else {
				expect(t, "Jacobi", []int{a, n}, x, big.Jacobi(number(a), number(n)), e, api.OK)
			}
		}
	}
	for _, c := range []struct {
		a, n, x int
		e       api.Errno
	}{
		{2, 15, 1, api.OK}, {0, 1, 1, api.OK}, {0, 3, 0, api.OK}, {0, greatest, 0, api.OK}, {1, greatest, 1, api.OK}, {greatest - 1, greatest, -1, api.OK}, {6, 9, 0, api.OK},
		{0, 0, 0, api.ErrArg}, {0, 2, 0, api.ErrArg}, {5, 4, 0, api.ErrArg}, {-1, greatest - 1, 0, api.ErrArg}, {0, -1, 0, api.ErrArg}, {0, -3, 0, api.ErrArg}, {-1, -2, 0, api.ErrArg},
		{1, api.MaxWord, 0, api.ErrArg}, {-1, api.MaxWord + 1, 0, api.ErrArg}, {1, math.MaxInt, 0, api.ErrArg}, {0, math.MinInt, 0, api.ErrArg},
		{1, 1, 0, api.ErrRange}, {3, 3, 0, api.ErrRange}, {-1, 3, 0, api.ErrRange}, {math.MinInt, 3, 0, api.ErrRange}, {math.MaxInt, greatest, 0, api.ErrRange},
	} {
		x, e := Jacobi(c.a, c.n)
		expect(t, "Jacobi", []int{c.a, c.n}, x, c.x, e, c.e)
	}
}

// apply returns the result of a call that is expected to succeed.
func apply(t *testing.T, f binary, a, b, m int) int {
	t.Helper()
	x, e := f(a, b, m)
	if e != api.OK {
		t.Fatal(a, b, m, e)
	}
	return x
}

// P1.7: residues form a commutative ring.
func TestRing(t *testing.T) {
	forPairs(func(a, b, m int) {
		add := func(x, y int) int { return apply(t, Add, x, y, m) }
		sub := func(x, y int) int { return apply(t, Sub, x, y, m) }
		mul := func(x, y int) int { return apply(t, Mul, x, y, m) }
		if add(a, b) != add(b, a) || mul(a, b) != mul(b, a) {
			t.Error("no exchange", a, b, m)
		}
		if add(a, 0) != a || mul(a, 1%m) != a || mul(a, 0) != 0 {
			t.Error("0 and 1 are not neutral", a, m)
		}
		if sub(a, a) != 0 || add(sub(a, b), b) != a || sub(a, b) != add(a, sub(0, b)) {
			t.Error("a difference does not undo a sum", a, b, m)
		}
		for _, c := range residues(m) {
			if add(add(a, b), c) != add(a, add(b, c)) || mul(mul(a, b), c) != mul(a, mul(b, c)) {
				t.Error("no regrouping", a, b, c, m)
			}
			if mul(a, add(b, c)) != add(mul(a, b), mul(a, c)) {
				t.Error("no distribution", a, b, c, m)
			}
		}
	})
}

// P1.7: powers follow the laws of exponents, and an inverse undoes a product.
func TestLawsOfExponents(t *testing.T) {
	forPairs(func(a, b, m int) {
		mul := func(x, y int) int { return apply(t, Mul, x, y, m) }
		pow := func(x, n int) int { return apply(t, Pow, x, n, m) }
		for _, n := range []int{0, 1, 2, 31, 1 << 29} {
			for _, k := range []int{0, 1, 3, 64, 1<<29 + 5} {
				if mul(pow(a, n), pow(a, k)) != pow(a, n+k) || pow(pow(a, n), k) != pow(a, n*k) {
					t.Error("exponents", a, n, k, m)
				}
			}
			if mul(pow(a, n), pow(b, n)) != pow(mul(a, b), n) {
				t.Error("bases", a, b, n, m)
			}
		}
		if x, e := Inverse(b, m); e == api.OK && mul(mul(a, b), x) != a {
			t.Error("inverse", a, b, m)
		}
	})
}

// P1.7: the symbol is multiplicative, and modulo an odd prime it is a power (Euler).
func TestLawsOfSymbols(t *testing.T) {
	forPairs(func(a, b, m int) {
		if m%2 == 0 {
			return
		}
		x, _ := Jacobi(a, m)
		y, _ := Jacobi(b, m)
		z, e := Jacobi(apply(t, Mul, a, b, m), m)
		expect(t, "product", []int{a, b, m}, z, x*y, e, api.OK)
	})
	for _, p := range []int{3, 97, 1<<31 - 1, greatest} {
		for _, a := range residues(p) {
			x, e := Jacobi(a, p)
			r, _ := Reduce(x, p)
			expect(t, "Euler", []int{a, p}, r, apply(t, Pow, a, (p-1)/2, p), e, api.OK)
		}
	}
}
