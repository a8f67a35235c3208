package natmod

import (
	"math"
	"math/big"
	"math/rand"
	"slices"
	"testing"

	"specie/api"
	"specie/natural"
	"specie/word"
)

const full = math.MaxUint32 // the greatest word

// nat returns the number with some words.
func nat(w ...uint32) api.Nat { return api.Nat{W: w} }

// power returns 2 to the power of n, plus d.
func power(n uint, d int64) *big.Int {
	z := new(big.Int).Lsh(big.NewInt(1), n)
	return z.Add(z, big.NewInt(d))
}

// value returns the sum of the words times their values.
func value(n api.Nat) *big.Int {
	z := new(big.Int)
	for _, w := range slices.Backward(n.W) {
		z.Lsh(z, 32)
		z.Add(z, big.NewInt(int64(w)))
	}
	return z
}

// number returns the valid number with a value, which may be too big.
func number(x *big.Int) api.Nat {
	var n api.Nat
	low := new(big.Int)
	for z := new(big.Int).Set(x); z.Sign() > 0; z.Rsh(z, 32) {
		n.W = append(n.W, uint32(low.And(z, big.NewInt(full)).Uint64()))
	}
	return n
}

// random returns a number of a length in words, many of whose words are the least or the greatest.
func random(r *rand.Rand, words int) api.Nat {
	var n api.Nat
	for range words {
		n.W = append(n.W, []uint32{0, full, 1 << 31, r.Uint32(), r.Uint32()}[r.Intn(5)])
	}
	n.W[words-1] = max(n.W[words-1], 1)
	return n
}

// invalid has numbers whose last word is 0, and numbers with too many words.
func invalid() []api.Nat {
	last := slices.Repeat([]uint32{full}, api.MaxWords)
	last[api.MaxWords-1] = 0
	return []api.Nat{nat(0), nat(0, 0), nat(1, 0), nat(0, 1, 0), {W: last}, {W: slices.Repeat([]uint32{1}, api.MaxWords+1)}, {W: make([]uint32, 2000)}}
}

// notModuli has the valid numbers around the moduli that are none.
func notModuli() []api.Nat {
	return []api.Nat{nat(), number(power(1024, 0)), number(power(1024, 1)), {W: slices.Repeat([]uint32{1}, 33)}, number(power(2048, -1))}
}

// moduli has the bounds, primes, powers of two, and numbers of many lengths.
func moduli() []api.Nat {
	all := []api.Nat{nat(1), nat(2), nat(3), nat(4), nat(10), nat(full), nat(0, 1), nat(15, 1), nat(13, 0, 1)}
	for _, z := range []*big.Int{power(61, -1), power(61, 0), power(64, -1), power(127, -1), power(512, -1), power(521, -1), power(992, 0), power(1023, 0), power(1023, 1), power(1024, -105), power(1024, -2), power(1024, -1)} {
		all = append(all, number(z))
	}
	r := rand.New(rand.NewSource(3))
	for _, words := range []int{1, 2, 3, 4, 8, 16, 31, 32} {
		all = append(all, random(r, words))
	}
	return all
}

// residues returns the ends of the residues of m, the middle, and some between them.
func residues(m api.Nat) []api.Nat {
	z := value(m)
	r := rand.New(rand.NewSource(int64(m.W[0])))
	values := []*big.Int{new(big.Int), new(big.Int).Rsh(z, 1), new(big.Int).Sub(z, big.NewInt(1)), new(big.Int).Rand(r, z), new(big.Int).Rand(r, z)}
	if z.Cmp(big.NewInt(2)) > 0 {
		values = append(values, big.NewInt(1), big.NewInt(2), new(big.Int).Sub(z, big.NewInt(2)))
	}
	var all []api.Nat
	for _, x := range values {
		all = append(all, number(x))
	}
	return all
}

// forPairs calls f with pairs of residues of all moduli.
func forPairs(f func(a, b, m api.Nat)) {
	for _, m := range moduli() {
		for _, a := range residues(m) {
			for _, b := range residues(m) {
				f(a, b, m)
			}
		}
	}
}

// exponents has numbers of all lengths up to the greatest, also longer ones than any modulus.
func exponents() []api.Nat {
	r := rand.New(rand.NewSource(4))
	all := []api.Nat{nat(), nat(1), nat(2), nat(3), nat(full), nat(0, 1), number(power(1024, -1)), number(power(1024, 0)), number(power(2047, 0)), number(power(2048, -1))}
	for _, words := range []int{1, 2, 5, 33, 64} {
		all = append(all, random(r, words))
	}
	return all
}

// same checks a number that is expected.
func same(t *testing.T, name string, n api.Nat, e api.Errno, want *big.Int, args ...api.Nat) {
	t.Helper()
	if e != api.OK || !slices.Equal(n.W, number(want).W) {
		t.Errorf("%s%v is %v, %d, not %v", name, args, n, e, number(want))
	}
}

// fails checks an error, with which the number is zero.
func fails(t *testing.T, name string, n api.Nat, e, want api.Errno, args ...api.Nat) {
	t.Helper()
	if e != want || len(n.W) != 0 {
		t.Errorf("%s%v is %v, %d, not the error %d", name, args, n, e, want)
	}
}

// binary has the shape of Add, Sub, Mul, and Pow.
type binary func(a, b, m api.Nat) (api.Nat, api.Errno)

// P3.1: sums, differences, and products of residues.
func TestSumsDifferencesProducts(t *testing.T) {
	for _, c := range []struct {
		name string
		f    binary
		want func(z, x, y *big.Int) *big.Int
	}{{"Add", Add, (*big.Int).Add}, {"Sub", Sub, (*big.Int).Sub}, {"Mul", Mul, (*big.Int).Mul}} {
		forPairs(func(a, b, m api.Nat) {
			z := c.want(new(big.Int), value(a), value(b))
			n, e := c.f(a, b, m)
			same(t, c.name, n, e, z.Mod(z, value(m)), a, b, m)
		})
	}
	greatest := number(power(1024, -1))
	last := number(power(1024, -2))
	n, e := Mul(nat(0, 1), nat(0, 1), nat(13, 0, 1))
	same(t, "the square of 2^32", n, e, power(64, 0))
	n, e = Add(last, last, greatest)
	same(t, "-1 - 1", n, e, power(1024, -3))
	n, e = Sub(nat(), nat(1), greatest)
	same(t, "0 - 1", n, e, power(1024, -2))
	n, e = Mul(last, last, greatest)
	same(t, "-1 times -1", n, e, big.NewInt(1))
}

// P3.1, P3.2: what is not valid or no modulus comes before what is no residue.
func TestInvalidPairs(t *testing.T) {
	greatest := number(power(1024, -1))
	beyond := number(power(1024, 0))
	none := append(invalid(), notModuli()...)
	for _, f := range []struct {
		name string
		f    binary
	}{{"Add", Add}, {"Sub", Sub}, {"Mul", Mul}, {"Pow", Pow}} {
		for _, x := range invalid() {
			for _, y := range append(none, nat(1), nat(5), greatest) {
				for _, m := range append(none, nat(1), nat(5), greatest) {
					n, e := f.f(x, y, m)
					fails(t, f.name, n, e, api.ErrArg, x, y, m)
					n, e = f.f(y, x, m)
					fails(t, f.name, n, e, api.ErrArg, y, x, m)
				}
			}
		}
		for _, m := range none {
			for _, x := range []api.Nat{nat(), nat(1), nat(5), beyond} {
				n, e := f.f(x, nat(), m)
				fails(t, f.name, n, e, api.ErrArg, x, nat(), m)
				n, e = f.f(nat(), x, m)
				fails(t, f.name, n, e, api.ErrArg, nat(), x, m)
			}
		}
		for _, c := range [][2]api.Nat{{nat(1), nat(1)}, {nat(5), nat(5)}, {nat(6), nat(5)}, {nat(0, 1), nat(5)}, {greatest, greatest}, {beyond, greatest}, {number(power(2048, -1)), nat(1)}, {nat(14, 0, 1), nat(13, 0, 1)}} {
			for _, b := range []api.Nat{nat(), c[0]} {
				n, e := f.f(c[0], b, c[1])
				fails(t, f.name, n, e, api.ErrRange, c[0], b, c[1])
			}
			n, e := f.f(nat(), c[0], c[1])
			if f.name == "Pow" { // any valid number is an exponent
				same(t, f.name, n, e, new(big.Int), nat(), c[0], c[1])
			} else {
				fails(t, f.name, n, e, api.ErrRange, nat(), c[0], c[1])
			}
		}
	}
}

// P3.2: powers, with exponents of all lengths.
func TestPowers(t *testing.T) {
	for _, m := range moduli() {
		for i, a := range residues(m) {
			for j, x := range exponents() {
				if len(m.W) > 4 && (i+j)%3 != 0 { // long powers take time
					continue
				}
				n, e := Pow(a, x, m)
				same(t, "Pow", n, e, new(big.Int).Exp(value(a), value(x), value(m)), a, x, m)
			}
		}
	}
	greatest, most := number(power(1024, -1)), number(power(2048, -1))
	for _, c := range []struct {
		a, x, m api.Nat
		want    int64
	}{
		{nat(), nat(), nat(5), 1}, {nat(), nat(), nat(1), 0}, {nat(), nat(), greatest, 1}, {nat(), nat(1), nat(5), 0}, {nat(), most, nat(5), 0}, {nat(), most, nat(1), 0}, {nat(4), most, nat(5), 4},
		{nat(2), nat(10), nat(1000), 24}, {nat(2), nat(1024), greatest, 1}, {nat(2), nat(1026), greatest, 4}, {nat(1), most, greatest, 1}, {nat(2), nat(1024), number(power(1023, 0)), 0},
	} {
		n, e := Pow(c.a, c.x, c.m)
		same(t, "Pow", n, e, big.NewInt(c.want), c.a, c.x, c.m)
	}
}

// P3.3: the greatest common divisor of any two natural numbers.
func TestGcd(t *testing.T) {
	var all []api.Nat
	for _, z := range []*big.Int{power(1024, 0), power(1025, -2), power(2047, 0), power(2048, -2), power(2048, -1)} {
		all = append(all, number(z))
	}
	r := rand.New(rand.NewSource(5))
	for _, words := range []int{1, 2, 16, 32, 33, 64} {
		all = append(all, random(r, words))
	}
	all = append(append(all, exponents()...), nat(0, 6), nat(0, 0, 4), nat(12), nat(18))
	for _, x := range all[3:13] { // numbers with a great common divisor
		for _, y := range all[:13] {
			if z := new(big.Int).Mul(value(x), value(y)); z.Sign() > 0 && z.BitLen() <= 2048 {
				all = append(all, number(z))
			}
		}
	}
	for _, a := range all {
		for _, b := range all {
			n, e := Gcd(a, b)
			same(t, "Gcd", n, e, new(big.Int).GCD(nil, nil, value(a), value(b)), a, b)
		}
	}
	for _, c := range [][3]api.Nat{{nat(), nat(), nat()}, {nat(), nat(0, 4), nat(0, 4)}, {nat(0, 4), nat(), nat(0, 4)}, {nat(0, 6), nat(0, 0, 4), nat(0, 2)}, {nat(12), nat(18), nat(6)}, {nat(12), nat(1), nat(1)}, {nat(), nat(1), nat(1)}} {
		n, e := Gcd(c[0], c[1])
		same(t, "Gcd", n, e, value(c[2]), c[0], c[1])
	}
	for _, a := range invalid() {
		for _, b := range append(invalid(), nat(), nat(1), number(power(2048, -1))) {
			n, e := Gcd(a, b)
			fails(t, "Gcd", n, e, api.ErrArg, a, b)
			n, e = Gcd(b, a)
			fails(t, "Gcd", n, e, api.ErrArg, b, a)
		}
	}
}

// fibonacci returns two neighbors, for which the algorithm of Euclid is the longest.
func fibonacci(steps int) (less, greater *big.Int) {
	less, greater = big.NewInt(1), big.NewInt(2)
	for range steps {
		less, greater = greater, new(big.Int).Add(less, greater)
	}
	return less, greater
}

// P3.3: inverses, where there are any.
func TestInverses(t *testing.T) {
	for _, m := range moduli()[1:] { // big would say that nothing has an inverse modulo 1
		for _, a := range residues(m) {
			n, e := Inverse(a, m)
			if z := new(big.Int).ModInverse(value(a), value(m)); z != nil {
				same(t, "Inverse", n, e, z, a, m)
			} else {
				fails(t, "Inverse", n, e, api.ErrZero, a, m)
			}
		}
	}
	for _, steps := range []int{1, 2, 3, 100, 101, 1470, 1471} {
		x, y := fibonacci(steps)
		n, e := Inverse(number(x), number(y))
		same(t, "Inverse", n, e, new(big.Int).ModInverse(x, y), number(x), number(y))
	}
	greatest := number(power(1024, -1))
	for _, c := range []struct {
		a, m, x api.Nat
		e       api.Errno
	}{
		{nat(2), nat(13, 0, 1), nat(7, 1<<31), api.OK}, {nat(), nat(1), nat(), api.OK}, {nat(1), nat(2), nat(1), api.OK}, {nat(7), nat(11), nat(8), api.OK}, {nat(1), greatest, nat(1), api.OK}, {nat(2), greatest, number(power(1023, 0)), api.OK},
		{nat(), nat(2), nat(), api.ErrZero}, {nat(), greatest, nat(), api.ErrZero}, {nat(6), nat(9), nat(), api.ErrZero}, {nat(3), greatest, nat(), api.ErrZero}, {nat(2), number(power(1023, 0)), nat(), api.ErrZero},
		{nat(1), nat(1), nat(), api.ErrRange}, {nat(9), nat(9), nat(), api.ErrRange}, {nat(12), nat(9), nat(), api.ErrRange}, {greatest, greatest, nat(), api.ErrRange}, {number(power(2048, -1)), nat(3), nat(), api.ErrRange},
	} {
		n, e := Inverse(c.a, c.m)
		if c.e == api.OK {
			same(t, "Inverse", n, e, value(c.x), c.a, c.m)
		} else {
			fails(t, "Inverse", n, e, c.e, c.a, c.m)
		}
	}
	for _, x := range invalid() {
		for _, y := range append(append(invalid(), notModuli()...), nat(1), nat(5)) {
			n, e := Inverse(x, y)
			fails(t, "Inverse", n, e, api.ErrArg, x, y)
			n, e = Inverse(y, x)
			fails(t, "Inverse", n, e, api.ErrArg, y, x)
		}
	}
	for _, m := range notModuli() {
		for _, a := range []api.Nat{nat(), nat(1), nat(5), number(power(1024, 0))} {
			n, e := Inverse(a, m)
			fails(t, "Inverse", n, e, api.ErrArg, a, m)
		}
	}
}

// P3.4: modulo small numbers the result is what trying all numbers finds.
func TestCrtByTrial(t *testing.T) {
	for p := 1; p <= 12; p++ {
		for q := 1; q <= 12; q++ {
			for x := range p * q {
				a, b := number(big.NewInt(int64(x%p))), number(big.NewInt(int64(x%q)))
				n, e := Crt(a, number(big.NewInt(int64(p))), b, number(big.NewInt(int64(q))))
				if word.Gcd(p, q) == 1 {
					same(t, "Crt", n, e, big.NewInt(int64(x)), a, b)
				} else {
					fails(t, "Crt", n, e, api.ErrZero, a, b)
				}
			}
		}
	}
}

// P3.4: the error and the result for moduli of all lengths; a result less than p q with the remainders a and b is the only one.
func TestCrt(t *testing.T) {
	reached := map[api.Errno]int{}
	for _, p := range moduli() {
		for _, q := range moduli() {
			all := residues(q)
			for i, a := range residues(p) {
				b := all[(i+1)%len(all)]
				n, e := Crt(a, p, b, q)
				reached[e]++
				product := new(big.Int).Mul(value(p), value(q))
				switch {
				case new(big.Int).GCD(nil, nil, value(p), value(q)).Cmp(big.NewInt(1)) != 0:
					fails(t, "Crt", n, e, api.ErrZero, a, p, b, q)
				case product.BitLen() > 1024:
					fails(t, "Crt", n, e, api.ErrBig, a, p, b, q)
				default:
					x := value(n)
					if x.Cmp(product) >= 0 || new(big.Int).Mod(x, value(p)).Cmp(value(a)) != 0 || new(big.Int).Mod(x, value(q)).Cmp(value(b)) != 0 {
						t.Error("Crt", a, p, b, q, "is", n)
					}
					same(t, "Crt", n, e, x, a, p, b, q)
				}
			}
		}
	}
	if reached[api.OK] < 500 || reached[api.ErrZero] < 500 || reached[api.ErrBig] < 500 {
		t.Error("Crt has the results", reached)
	}
}

// P3.4: where p q ceases to be a modulus, and the order of all errors.
func TestErrorsOfCrt(t *testing.T) {
	half, more, least, greatest, beyond := number(power(512, -1)), number(power(512, 1)), number(power(512, 0)), number(power(1024, -1)), number(power(1024, 0))
	p, q := number(power(992, 0)), nat(full, full)
	for _, c := range []struct {
		a, p, b, q api.Nat
		want       *big.Int
		e          api.Errno
	}{
		{nat(2), nat(3), nat(3), nat(5), big.NewInt(8), api.OK}, {nat(6), nat(7), nat(10), nat(11), big.NewInt(76), api.OK},
		{nat(), nat(1), nat(), nat(1), new(big.Int), api.OK}, {nat(), nat(1), nat(3), nat(5), big.NewInt(3), api.OK}, {nat(3), nat(5), nat(), nat(1), big.NewInt(3), api.OK}, {nat(), nat(1), nat(7), greatest, big.NewInt(7), api.OK},
		{nat(1), half, nat(1), more, big.NewInt(1), api.OK}, {number(power(512, -2)), half, least, more, power(1024, -2), api.OK}, {nat(3), half, nat(3), least, big.NewInt(3), api.OK},
		{nat(1), least, nat(2), more, nil, api.ErrBig}, {nat(1), p, nat(2), q, nil, api.ErrBig}, {nat(1), greatest, nat(1), nat(2), nil, api.ErrBig}, {nat(), nat(2), nat(1), greatest, nil, api.ErrBig},
		{nat(1), nat(4), nat(3), nat(6), nil, api.ErrZero}, {nat(2), nat(5), nat(2), nat(5), nil, api.ErrZero}, {nat(1), greatest, nat(1), greatest, nil, api.ErrZero}, {nat(1), greatest, nat(1), nat(3), nil, api.ErrZero},
		{nat(3), nat(3), nat(3), nat(5), nil, api.ErrRange}, {nat(2), nat(3), nat(5), nat(5), nil, api.ErrRange}, {nat(4), nat(3), nat(2), nat(5), nil, api.ErrRange}, {nat(1), nat(1), nat(), nat(5), nil, api.ErrRange},
		{nat(4), nat(4), nat(3), nat(6), nil, api.ErrRange}, {nat(1), greatest, greatest, greatest, nil, api.ErrRange}, {least, least, nat(2), more, nil, api.ErrRange}, {nat(1), least, more, more, nil, api.ErrRange},
		{nat(1), beyond, nat(1), nat(3), nil, api.ErrArg}, {nat(1), nat(3), nat(1), beyond, nil, api.ErrArg}, {nat(), nat(), nat(), nat(3), nil, api.ErrArg}, {nat(), nat(3), nat(), nat(), nil, api.ErrArg},
	} {
		n, e := Crt(c.a, c.p, c.b, c.q)
		if c.e == api.OK {
			same(t, "Crt", n, e, c.want, c.a, c.p, c.b, c.q)
		} else {
			fails(t, "Crt", n, e, c.e, c.a, c.p, c.b, c.q)
		}
	}
	for _, x := range append(invalid(), notModuli()...) { // in each place, beside numbers that are no residues, or have a common divisor
		for _, l := range [][4]api.Nat{{nat(1), nat(4), nat(2), nat(9)}, {nat(5), nat(4), nat(9), nat(9)}, {nat(1), nat(4), nat(2), nat(6)}, {nat(1), least, nat(2), more}} {
			for i := range l {
				if i%2 == 0 && natural.Valid(x) { // a residue need not be a modulus
					continue
				}
				args := l
				args[i] = x
				n, e := Crt(args[0], args[1], args[2], args[3])
				fails(t, "Crt", n, e, api.ErrArg, args[:]...)
			}
		}
	}
}

// P3.1 to P3.4: arguments stay as they are, also beyond their length, and results have words of their own.
func TestMemory(t *testing.T) {
	calls := map[string]func(a, b, m api.Nat) (api.Nat, api.Errno){
		"Add": Add, "Sub": Sub, "Mul": Mul, "Pow": Pow,
		"Gcd":     func(a, b, m api.Nat) (api.Nat, api.Errno) { return Gcd(a, b) },
		"Inverse": func(a, b, m api.Nat) (api.Nat, api.Errno) { return Inverse(a, m) },
		"Crt":     func(a, b, m api.Nat) (api.Nat, api.Errno) { return Crt(a, m, b, nat(13, 0, 1)) },
		"flipped": func(a, b, m api.Nat) (api.Nat, api.Errno) { return Crt(b, nat(13, 0, 1), a, m) },
	}
	room := []uint32{5, 6, 7, 8, 9, 10, 11, 12}
	all := []api.Nat{nat(), nat(1), nat(2), {W: room[:1]}, {W: room[1:3]}, nat(1, 2, 3), number(power(1023, -1)), nat(1, 0)}
	for name, f := range calls {
		for _, a := range all {
			for _, b := range all {
				for _, m := range append(moduli(), all...) {
					words := [][]uint32{slices.Clone(a.W), slices.Clone(b.W), slices.Clone(m.W)}
					n, _ := f(a, b, m)
					spare := n.W[:cap(n.W)]
					for i := range spare {
						spare[i] = 7777
					}
					if !slices.Equal(words[0], a.W) || !slices.Equal(words[1], b.W) || !slices.Equal(words[2], m.W) || !slices.Equal(room, []uint32{5, 6, 7, 8, 9, 10, 11, 12}) {
						t.Fatal(name, "changed an argument, or shares it", words)
					}
				}
			}
		}
	}
}

// apply returns the result of a call that is expected to succeed.
func apply(t *testing.T, f binary, a, b, m api.Nat) api.Nat {
	t.Helper()
	n, e := f(a, b, m)
	if e != api.OK {
		t.Fatal(a, b, m, e)
	}
	return n
}

func equal(a, b api.Nat) bool { return slices.Equal(a.W, b.W) }

// P3.5: residues form a commutative ring.
func TestRing(t *testing.T) {
	forPairs(func(a, b, m api.Nat) {
		add := func(x, y api.Nat) api.Nat { return apply(t, Add, x, y, m) }
		sub := func(x, y api.Nat) api.Nat { return apply(t, Sub, x, y, m) }
		mul := func(x, y api.Nat) api.Nat { return apply(t, Mul, x, y, m) }
		one := apply(t, Pow, nat(), nat(), m)
		if !equal(add(a, b), add(b, a)) || !equal(mul(a, b), mul(b, a)) {
			t.Error("no exchange", a, b, m)
		}
		if !equal(add(a, nat()), a) || !equal(mul(a, one), a) || !equal(mul(a, nat()), nat()) {
			t.Error("0 and 1 are not neutral", a, m)
		}
		if !equal(sub(a, a), nat()) || !equal(add(sub(a, b), b), a) || !equal(sub(a, b), add(a, sub(nat(), b))) {
			t.Error("a difference does not undo a sum", a, b, m)
		}
		for _, c := range residues(m) {
			if !equal(add(add(a, b), c), add(a, add(b, c))) || !equal(mul(mul(a, b), c), mul(a, mul(b, c))) {
				t.Error("no regrouping", a, b, c, m)
			}
			if !equal(mul(a, add(b, c)), add(mul(a, b), mul(a, c))) {
				t.Error("no distribution", a, b, c, m)
			}
		}
	})
}

// P3.5: powers follow the laws of exponents.
func TestLawsOfExponents(t *testing.T) {
	r := rand.New(rand.NewSource(6))
	for _, m := range moduli() {
		mul := func(x, y api.Nat) api.Nat { return apply(t, Mul, x, y, m) }
		pow := func(x, y api.Nat) api.Nat { return apply(t, Pow, x, y, m) }
		for _, a := range residues(m) {
			for _, words := range []int{1, 2, 9} {
				x, y := random(r, words), random(r, words)
				sum, product := new(big.Int).Add(value(x), value(y)), new(big.Int).Mul(value(x), value(y))
				if !equal(pow(a, number(sum)), mul(pow(a, x), pow(a, y))) {
					t.Error("no power of a sum", a, x, y, m)
				}
				if !equal(pow(a, number(product)), pow(pow(a, x), y)) {
					t.Error("no power of a power", a, x, y, m)
				}
				b := residues(m)[r.Intn(5)]
				if !equal(pow(mul(a, b), x), mul(pow(a, x), pow(b, x))) {
					t.Error("no power of a product", a, b, x, m)
				}
			}
		}
	}
}

// P3.5: an inverse undoes a product, and is itself undone.
func TestLawsOfInverses(t *testing.T) {
	found := 0
	forPairs(func(a, b, m api.Nat) {
		x, e := Inverse(a, m)
		d, f := Gcd(a, m)
		if (e == api.OK) != equal(d, nat(1)) || f != api.OK {
			t.Error("inverse", a, m, e, d, f)
		}
		if e != api.OK {
			return
		}
		found++
		if back := apply(t, Mul, apply(t, Mul, b, a, m), x, m); !equal(back, b) {
			t.Error("an inverse does not undo a product", a, b, m)
		}
		if back, e := Inverse(x, m); e != api.OK || !equal(back, a) {
			t.Error("an inverse is not undone", a, x, back, m)
		}
	})
	if found < 500 {
		t.Error("only", found, "inverses")
	}
}

// P3.5: for numbers below 2^61 the results, and the errors, are those of layer 1.
func TestLayer1(t *testing.T) {
	of := func(x int) api.Nat { return number(big.NewInt(int64(x))) }
	expect := func(name string, n api.Nat, e api.Errno, x int, f api.Errno, args ...int) {
		t.Helper()
		if e != f || !equal(n, of(x)) {
			t.Error(name, args, n, e, x, f)
		}
	}
	pairs := []struct {
		name string
		f    binary
		g    func(a, b, m int) (int, api.Errno)
	}{{"Add", Add, word.Add}, {"Sub", Sub, word.Sub}, {"Mul", Mul, word.Mul}, {"Pow", Pow, word.Pow}}
	r := rand.New(rand.NewSource(7))
	for _, m := range []int{0, 1, 2, 3, 10, 97, 1<<31 - 1, 1 << 32, 1<<32 + 15, 1 << 60, api.MaxWord - 2, api.MaxWord - 1} {
		all := []int{0, 1, m / 2, m, m + 1}
		for range 5 {
			all = append(all, r.Intn(max(m, 1)))
		}
		for _, a := range all {
			for _, b := range all {
				for _, c := range pairs {
					n, e := c.f(of(a), of(b), of(m))
					x, f := c.g(a, b, m)
					expect(c.name, n, e, x, f, a, b, m)
				}
				n, e := Gcd(of(a), of(b))
				expect("Gcd", n, e, word.Gcd(a, b), api.OK, a, b)
			}
			n, e := Inverse(of(a), of(m))
			x, f := word.Inverse(a, m)
			expect("Inverse", n, e, x, f, a, m)
		}
	}
}

// P3.5: each residue modulo p q is what Crt makes of its remainders.
func TestLawOfCrt(t *testing.T) {
	for _, c := range [][2]*big.Int{{power(0, 0), power(1024, -1)}, {power(61, -1), power(64, 13)}, {power(512, -1), power(512, 1)}, {power(512, -1), power(512, 0)}, {power(521, -1), power(503, -1)}, {power(127, -1), power(800, 0)}, {power(1023, 0), power(0, 0)}} {
		p, q := c[0], c[1]
		m := new(big.Int).Mul(p, q)
		for _, n := range residues(number(m)) {
			a, b := new(big.Int).Mod(value(n), p), new(big.Int).Mod(value(n), q)
			x, e := Crt(number(a), number(p), number(b), number(q))
			same(t, "Crt", x, e, value(n), number(a), number(p), number(b), number(q))
			x, e = Crt(number(b), number(q), number(a), number(p))
			same(t, "Crt", x, e, value(n), number(b), number(q), number(a), number(p))
		}
	}
}
