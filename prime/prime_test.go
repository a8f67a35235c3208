package prime

import (
	"math"
	"math/big"
	"math/rand"
	"slices"
	"testing"

	"specie/api"
)

const (
	below  = 1<<20 - 3 // the primes beside 2^20, and the next one
	above  = 1<<20 + 7
	beyond = 1<<20 + 13
)

// isPrime is the test of math/big, which is right for all numbers of 64 bits.
func isPrime(n int) bool { return n > 1 && big.NewInt(int64(n)).ProbablyPrime(0) }

// leastFactors returns, for all numbers below limit, the least prime that divides it.
func leastFactors(limit int) []int {
	least := make([]int, limit)
	for d := 2; d < limit; d++ {
		if least[d] != 0 {
			continue
		}
		for m := d; m < limit; m += d {
			if least[m] == 0 {
				least[m] = d
			}
		}
	}
	return least
}

// primesTo returns all primes below limit.
func primesTo(limit int) []int {
	var primes []int
	for n, least := range leastFactors(limit) {
		if n > 1 && n == least {
			primes = append(primes, n)
		}
	}
	return primes
}

// passesOne is the strong test for a base, as math/big computes it.
func passesOne(n, base int) bool {
	m, one, odd, twos := big.NewInt(int64(n)), big.NewInt(1), n-1, 0
	for odd%2 == 0 {
		odd, twos = odd/2, twos+1
	}
	x := new(big.Int).Exp(big.NewInt(int64(base)), big.NewInt(int64(odd)), m)
	if x.Cmp(one) == 0 {
		return true
	}
	for range twos {
		if x.Cmp(big.NewInt(int64(n-1))) == 0 {
			return true
		}
		x.Mod(x.Mul(x, x), m)
	}
	return false
}

// P5.1: all small numbers, and the primes after them.
func TestSmallNumbers(t *testing.T) {
	const limit = 300000
	least := leastFactors(limit)
	next := 300007
	for n := limit - 1; n >= 0; n-- {
		if p, e := Next(n); p != next || e != api.OK {
			t.Fatal("Next", n, p, e, next)
		}
		prime := n > 1 && least[n] == n
		if Is(n) != prime {
			t.Fatal("Is", n, !prime)
		}
		if prime {
			next = n
		}
	}
}

// P5.1: integers below 2 are no primes.
func TestBelow2(t *testing.T) {
	for _, n := range []int{1, 0, -1, -2, -3, -5, -7, -41, -above, -(1<<61 - 1), -1 << 61, -1 << 62, math.MinInt + 1, math.MinInt} {
		if Is(n) {
			t.Error(n)
		}
	}
}

// P5.1: the numbers around powers of two, up to the greatest int.
func TestAroundPowersOfTwo(t *testing.T) {
	for i := range 63 {
		for d := -100; d <= 100; d++ {
			if n := 1<<i + d; n > 0 && Is(n) != isPrime(n) {
				t.Error(n, !isPrime(n))
			}
		}
	}
	for d := range 200 {
		if n := math.MaxInt - d; Is(n) != isPrime(n) {
			t.Error(n, !isPrime(n))
		}
	}
	for n, want := range map[int]bool{1<<61 - 3: false, 1<<61 - 2: false, 1<<61 - 1: true, 1 << 61: false, 1<<61 + 1: false, math.MaxInt: false, math.MaxInt - 24: true} {
		if Is(n) != want {
			t.Error(n, !want)
		}
	}
}

// P5.1: squares of primes, and products of two, of all lengths.
func TestProductsOfTwo(t *testing.T) {
	r := rand.New(rand.NewSource(1))
	primes := []int{2, 3, 5, 31, 37, 41, 43, 47, 1009, below, above, beyond, 1<<31 - 1}
	for range 40 {
		n := 1 + r.Intn(1<<(1+r.Intn(31)))
		for !isPrime(n) {
			n++
		}
		primes = append(primes, n)
	}
	for _, p := range primes {
		if !Is(p) {
			t.Error(p)
		}
		for _, q := range primes {
			if p < math.MaxInt/q && Is(p*q) {
				t.Error(p, q)
			}
		}
	}
	if n := 3037000493; !Is(n) || Is(n*n) { // the greatest square of a prime that is an int
		t.Error(n)
	}
}

// P5.1: numbers that pass one witness, or many of them, without being primes.
func TestNotCaughtByOne(t *testing.T) {
	for _, b := range primesTo(41) {
		found := 0
		for n := 41 * 41; found < 5; n += 2 {
			if n%b != 0 && !isPrime(n) && passesOne(n, b) {
				found++
				if Is(n) {
					t.Error(n, "passes for", b)
				}
			}
		}
	}
	for _, n := range []int{2047, 1373653, 25326001, 3215031751, 2152302898747, 3474749660383, 341550071728321, 35705395979370253, 3825123056546413051} {
		if Is(n) { // the least numbers that pass for the first bases, and one that only 5 finds out
			t.Error(n)
		}
	}
	for _, n := range []int{561, 1105, 1729, 41041, 825265, 321197185, 5394826801, 232250619601, 9746347772161, 1436697831295441, 60977817398996785, 7156857700403137441} {
		if Is(n) { // numbers of Carmichael
			t.Error(n)
		}
	}
}

// P5.1: random numbers of all lengths, and the primes after them.
func TestRandomNumbers(t *testing.T) {
	r := rand.New(rand.NewSource(2))
	for range 3000 {
		n := r.Int() >> r.Intn(60)
		if Is(n) != isPrime(n) {
			t.Error(n, !isPrime(n))
		}
		if n > 1<<61-2 {
			continue
		}
		want := n + 1
		for !isPrime(want) {
			want++
		}
		if p, e := Next(n); p != want || e != api.OK {
			t.Error(n, p, e, want)
		}
	}
}

// P5.1: the bounds of Next.
func TestBoundsOfNext(t *testing.T) {
	for n, want := range map[int]int{0: 2, 1: 2, 2: 3, 3: 5, 4: 5, below - 1: below, below: above, above: beyond, 1<<61 - 3: 1<<61 - 1, 1<<61 - 2: 1<<61 - 1} {
		if p, e := Next(n); p != want || e != api.OK {
			t.Error(n, p, e, want)
		}
	}
	for _, n := range []int{-1, -2, math.MinInt, 1<<61 - 1, 1 << 61, 1<<61 + 1, math.MaxInt - 25, math.MaxInt} {
		if p, e := Next(n); p != 0 || e != api.ErrRange {
			t.Error(n, p, e)
		}
	}
}

// factors is what Factors is to return, found by division by the primes up to 2^20.
func factors(n int, primes []int) (all []int, e api.Errno) {
	for _, p := range primes {
		for n%p == 0 {
			n /= p
			all = append(all, p)
		}
	}
	switch {
	case n == 1:
		return all, api.OK
	case isPrime(n):
		return append(all, n), api.OK
	}
	return nil, api.ErrBig
}

// P5.2: the factors of all small numbers, which are primes with the number as product (P5.6).
func TestFactorsOfSmallNumbers(t *testing.T) {
	const limit = 100000
	least := leastFactors(limit)
	for n := 1; n < limit; n++ {
		l, e := Factors(n)
		if e != api.OK || !slices.IsSorted(l) {
			t.Fatal(n, l, e)
		}
		product := 1
		for _, p := range l {
			product *= p
			if least[p] != p || !Is(p) {
				t.Fatal(n, l)
			}
		}
		if product != n {
			t.Fatal(n, l)
		}
	}
}

// P5.2: what is left after the small factors is 1, a prime, or anything else.
func TestWhatIsLeft(t *testing.T) {
	mersenne := 1<<61 - 1
	for _, c := range []struct {
		n    int
		want []int
		e    api.Errno
	}{
		{1, nil, api.OK},
		{2, []int{2}, api.OK},
		{3, []int{3}, api.OK},
		{4, []int{2, 2}, api.OK},
		{360, []int{2, 2, 2, 3, 3, 5}, api.OK},
		{1 << 60, slices.Repeat([]int{2}, 60), api.OK},
		{below, []int{below}, api.OK},
		{above, []int{above}, api.OK},
		{below * below, []int{below, below}, api.OK},
		{below * below * below, []int{below, below, below}, api.OK},
		{1048571 * below, []int{1048571, below}, api.OK},
		{below * above, []int{below, above}, api.OK},
		{below * below * above, []int{below, below, above}, api.OK},
		{6 * below * above, []int{2, 3, below, above}, api.OK},
		{1 << 39 * above, append(slices.Repeat([]int{2}, 39), above), api.OK},
		{mersenne, []int{mersenne}, api.OK},
		{mersenne - 1, []int{2, 3, 3, 5, 5, 7, 11, 13, 31, 41, 61, 151, 331, 1321}, api.OK},
		{2 * (1<<59 - 55), []int{2, 1<<59 - 55}, api.OK},
		{above * above, nil, api.ErrBig},
		{above * beyond, nil, api.ErrBig},
		{2 * above * above, nil, api.ErrBig},
		{below * above * above, nil, api.ErrBig},
		{3 * 5 * above * beyond, nil, api.ErrBig},
		{1 << 19 * above * beyond, nil, api.ErrBig},
		{1518500213 * 1518500213, nil, api.ErrBig}, // the greatest square below MaxWord
	} {
		if l, e := Factors(c.n); !slices.Equal(l, c.want) || e != c.e || e != api.OK && l != nil {
			t.Error(c.n, l, e, c.want, c.e)
		}
	}
	for _, n := range []int{0, -1, -6, -1 << 61, math.MinInt, 1 << 61, 1<<61 + 1, 1 << 62, math.MaxInt} {
		if l, e := Factors(n); len(l) != 0 || e != api.ErrRange {
			t.Error(n, l, e)
		}
	}
}

// P5.2: random numbers, and products of random factors.
func TestRandomFactors(t *testing.T) {
	r := rand.New(rand.NewSource(3))
	primes := primesTo(1 << 20)
	tooBig := 0
	for range 300 {
		n := 1 + r.Intn(1<<61-1)>>r.Intn(15)
		for limit := 1 << (3 + r.Intn(12)); r.Intn(2) == 0; {
			if f := 1 + r.Intn(limit); n < (1<<61-1)/f {
				n *= f
			}
		}
		want, wantError := factors(n, primes)
		l, e := Factors(n)
		if !slices.Equal(l, want) || e != wantError {
			t.Error(n, l, e, want, wantError)
		}
		if e == api.ErrBig {
			tooBig++
		}
	}
	if tooBig < 20 || tooBig > 280 {
		t.Error(tooBig, "of 300 are too big")
	}
}

// Results share no memory with each other.
func TestFactorsAreNew(t *testing.T) {
	l, _ := Factors(360)
	l = l[:cap(l)]
	for i := range l {
		l[i] = 99
	}
	if again, e := Factors(360); !slices.Equal(again, []int{2, 2, 2, 3, 3, 5}) || e != api.OK {
		t.Error(again, e)
	}
}

// period returns the number of different powers of r modulo p.
func period(r, p int) int {
	n := 1
	for x := r; x != 1; x = x * r % p {
		n++
	}
	return n
}

// P5.3, P5.6: the powers of the least root are all different up to p - 1, those of smaller numbers are not.
func TestRootsBySearch(t *testing.T) {
	for _, p := range append(primesTo(3000), 5881, 36721, 55441, 71761, 110881) {
		root, e := Root(p)
		if e != api.OK || root < 1 || root >= p {
			t.Fatal(p, root, e)
		}
		for r := 1; r <= root; r++ {
			if all := period(r, p) == p-1; all != (r == root) {
				t.Fatal(p, root, r)
			}
		}
	}
}

// P5.3: small primes, and primes whose least root is greater than that of all primes before them.
func TestKnownRoots(t *testing.T) {
	for p, want := range map[int]int{2: 1, 3: 2, 5: 2, 7: 3, 11: 2, 13: 2, 17: 3, 23: 5, 41: 6, 71: 7, 191: 19, 409: 21, 2161: 23, 5881: 31, 36721: 37, 55441: 38, 71761: 44, 110881: 69, 760321: 73, 5109721: 94, 17551561: 97, 29418841: 101, 33358081: 107, 45024841: 111, 90441961: 113, 184254841: 127, 324013369: 137, 831143041: 151, 1685283601: 164, 6064561441: 179, 7111268641: 194, 9470788801: 197, 28725635761: 227} {
		if r, e := Root(p); r != want || e != api.OK {
			t.Error(p, r, e, want)
		}
	}
}

// isRootOf reports whether r is a primitive root of a prime p, given the factors of p - 1, as math/big computes it.
func isRootOf(r, p *big.Int, factors []*big.Int) bool {
	one, before := big.NewInt(1), new(big.Int)
	before.Sub(p, one)
	for i, q := range factors {
		if i > 0 && q.Cmp(factors[i-1]) == 0 {
			continue
		}
		if x := new(big.Int).Exp(r, new(big.Int).Div(before, q), p); x.Cmp(one) == 0 {
			return false
		}
	}
	return true
}

func bigs(l []int) (all []*big.Int) {
	for _, n := range l {
		all = append(all, big.NewInt(int64(n)))
	}
	return all
}

// rootOf returns the least primitive root of p, given the factors of p - 1, as math/big finds it.
func rootOf(p *big.Int, factors []*big.Int) *big.Int {
	r := big.NewInt(1)
	for !isRootOf(r, p, factors) {
		r.Add(r, big.NewInt(1))
	}
	return r
}

// largePrimes returns primes of all lengths up to 2^61 - 1.
func largePrimes(count int) []int {
	r := rand.New(rand.NewSource(4))
	primes := []int{2, 3, 5, 7, 1<<31 - 1, 1<<61 - 1, 1<<61 - 31, 1<<61 - 45, 1<<61 - 229}
	for len(primes) < count {
		n := r.Intn(1<<61-1) >> r.Intn(60)
		for !isPrime(n) {
			n++
		}
		primes = append(primes, n)
	}
	return primes
}

// P5.3: large primes, the factors of which may be too big.
func TestLargeRoots(t *testing.T) {
	small := primesTo(1 << 20)
	for _, p := range largePrimes(200) {
		l, want := factors(p-1, small)
		r, e := Root(p)
		switch {
		case e != want:
			t.Error(p, e, want)
		case e != api.OK && r != 0:
			t.Error(p, r)
		case e == api.OK && int64(r) != rootOf(big.NewInt(int64(p)), bigs(l)).Int64():
			t.Error(p, r)
		}
	}
}

// after returns the least prime k n + 1 with an even k.
func after(n int) int {
	p := 2*n + 1
	for !isPrime(p) {
		p += 2 * n
	}
	return p
}

// notPrimes has numbers that are no primes below MaxWord: some are too big, and some have factors before them that are.
func notPrimes() []int {
	all := []int{math.MinInt, -7, -2, -1, 0, 1, 4, 9, 15, 561, 3215031751, above * above, above * beyond, 1 << 20, 1<<61 - 2, 1 << 61, 1<<61 + 1, 1<<61 + 15, math.MaxInt - 24, math.MaxInt}
	for n := 2*above*beyond + 1; len(all) < 24; n += 2 * above * beyond {
		if !isPrime(n) {
			all = append(all, n)
		}
	}
	return all
}

// P5.3: no primes come before factors that are too big.
func TestErrorsOfRoot(t *testing.T) {
	for _, p := range notPrimes() {
		if r, e := Root(p); r != 0 || e != api.ErrArg {
			t.Error(p, r, e)
		}
	}
	for _, n := range []int{above * above, above * beyond, 6 * above * beyond} {
		if r, e := Root(after(n)); r != 0 || e != api.ErrBig {
			t.Error(after(n), r, e)
		}
	}
	p := after(above * beyond)
	if r, e := Root(after(p)); r == 0 || e != api.OK { // here only the factor p is a problem, which is none of Root
		t.Error(after(p), r, e)
	}
}

const full = math.MaxUint32 // the greatest word

// nat returns the number with some words.
func nat(w ...uint32) api.Nat { return api.Nat{W: w} }

// value returns the sum of the words times their values.
func value(n api.Nat) *big.Int {
	z := new(big.Int)
	for _, w := range slices.Backward(n.W) {
		z.Lsh(z, 32)
		z.Add(z, big.NewInt(int64(w)))
	}
	return z
}

// number returns the valid number with a value, which may be too big.
func number(x *big.Int) api.Nat {
	var n api.Nat
	low := new(big.Int)
	for z := new(big.Int).Set(x); z.Sign() > 0; z.Rsh(z, 32) {
		n.W = append(n.W, uint32(low.And(z, big.NewInt(full)).Uint64()))
	}
	return n
}

// power returns 2 to the power of n, plus d.
func power(n uint, d int64) *big.Int {
	z := new(big.Int).Lsh(big.NewInt(1), n)
	return z.Add(z, big.NewInt(d))
}

// equal compares certificates with all their parts.
func equal(a, b api.Cert) bool {
	return slices.Equal(a.N.W, b.N.W) && slices.Equal(a.Root.W, b.Root.W) && slices.EqualFunc(a.Parts, b.Parts, equal)
}

// clone copies a certificate with all its parts.
func clone(c api.Cert) api.Cert {
	d := api.Cert{N: nat(slices.Clone(c.N.W)...), Root: nat(slices.Clone(c.Root.W)...)}
	for _, part := range c.Parts {
		d.Parts = append(d.Parts, clone(part))
	}
	return d
}

// numbersOf returns the numbers of the parts.
func numbersOf(parts []api.Cert) (all []*big.Int) {
	for _, part := range parts {
		all = append(all, value(part.N))
	}
	return all
}

// join makes the certificate of the prime that is 1 more than the product of the parts, which are sorted, with the root that math/big finds.
func join(parts ...api.Cert) api.Cert {
	slices.SortFunc(parts, func(a, b api.Cert) int { return value(a.N).Cmp(value(b.N)) })
	n := big.NewInt(1)
	for _, part := range parts {
		n.Mul(n, value(part.N))
	}
	n.Add(n, big.NewInt(1))
	return api.Cert{N: number(n), Root: number(rootOf(n, numbersOf(parts))), Parts: parts}
}

// partsOf returns the certificates of the prime factors of n, all of which are at most 2^20 but for the last one.
func partsOf(n int) (parts []api.Cert) {
	for d := 2; n > 1; d++ {
		if d > 1<<20 {
			d = n
		}
		for n%d == 0 {
			n /= d
			parts = append(parts, certificate(d))
		}
	}
	return parts
}

// certificate returns what Certify is to return for a prime.
func certificate(p int) api.Cert { return join(partsOf(p - 1)...) }

// sizeOf is the definition of the size, for certificates that do not contain themselves.
func sizeOf(c api.Cert) int {
	n := 1
	for _, part := range c.Parts {
		n += sizeOf(part)
	}
	return n
}

// valid is the definition of layer 2.
func valid(n api.Nat) bool {
	return len(n.W) <= api.MaxWords && (len(n.W) == 0 || n.W[len(n.W)-1] != 0)
}

// rightAt is the definition of a right certificate, but for its size.
func rightAt(c api.Cert) bool {
	n, root, one := value(c.N), value(c.Root), big.NewInt(1)
	if !valid(c.N) || !valid(c.Root) || n.Cmp(one) <= 0 || n.BitLen() > 1024 || root.Sign() == 0 || root.Cmp(n) >= 0 {
		return false
	}
	product, last := big.NewInt(1), new(big.Int)
	for _, part := range c.Parts {
		if !rightAt(part) || value(part.N).Cmp(last) < 0 {
			return false
		}
		last = value(part.N)
		product.Mul(product, last)
	}
	before := new(big.Int).Sub(n, one)
	return product.Cmp(before) == 0 && new(big.Int).Exp(root, before, n).Cmp(one) == 0 && isRootOf(root, n, numbersOf(c.Parts))
}

// check compares Verify and Size with their definitions, and reports whether c is right.
func check(t *testing.T, c api.Cert) bool {
	t.Helper()
	before := clone(c)
	size := sizeOf(c)
	right := size <= 1000 && rightAt(c)
	if got := Verify(c); got != right {
		t.Error("Verify", c, got)
	}
	want := size
	if size > 1000 {
		want = 0
	}
	if got := Size(c); got != want {
		t.Error("Size", c, got, want)
	}
	if !equal(c, before) {
		t.Error("changed", before, c)
	}
	return right
}

// expect checks that a certificate is right or wrong, as a test knows, and by the definition.
func expect(t *testing.T, name string, c api.Cert, right bool) {
	t.Helper()
	if check(t, c) != right {
		t.Error(name, !right)
	}
}

// P5.4: the certificates of the least primes.
func TestLeastCertificates(t *testing.T) {
	two := api.Cert{N: nat(2), Root: nat(1)}
	three := api.Cert{N: nat(3), Root: nat(2), Parts: []api.Cert{two}}
	five := api.Cert{N: nat(5), Root: nat(2), Parts: []api.Cert{two, two}}
	seven := api.Cert{N: nat(7), Root: nat(3), Parts: []api.Cert{two, three}}
	eleven := api.Cert{N: nat(11), Root: nat(2), Parts: []api.Cert{two, five}}
	for n, want := range map[int]api.Cert{2: two, 3: three, 5: five, 7: seven, 11: eleven, 23: {N: nat(23), Root: nat(5), Parts: []api.Cert{two, eleven}}} {
		c, e := Certify(n)
		if !equal(c, want) || e != api.OK {
			t.Error(n, c, e)
		}
		expect(t, "least", c, true)
		expect(t, "least", want, true)
	}
	if Size(two) != 1 || Size(three) != 2 || Size(five) != 3 || Size(seven) != 4 {
		t.Error("sizes")
	}
}

// P5.4, P5.6: the certificate of a prime is as its definition says, and right.
func TestCertificates(t *testing.T) {
	for _, p := range append(primesTo(2000), below, above, 1<<31-1, 1<<61-1) {
		c, e := Certify(p)
		if e != api.OK || !equal(c, certificate(p)) {
			t.Fatal(p, c, e)
		}
		expect(t, "certificate", c, true)
	}
}

// certError is the error of Certify for a prime: that of the factors before it, or before any prime in its certificate.
func certError(p int, small []int) api.Errno {
	l, e := factors(p-1, small)
	for _, q := range l {
		if e == api.OK {
			e = certError(q, small)
		}
	}
	return e
}

// P5.4, P5.6: large primes, also near 2^61; some have no certificate.
func TestLargeCertificates(t *testing.T) {
	small := primesTo(1 << 20)
	made := 0
	for _, p := range largePrimes(120) {
		c, e := Certify(p)
		switch want := certError(p, small); {
		case e != want:
			t.Error(p, e, want)
		case e != api.OK:
			if !equal(c, api.Cert{}) {
				t.Error(p, c)
			}
		default:
			made++
			if !equal(c, certificate(p)) {
				t.Error(p, c)
			}
			expect(t, "certificate", c, true)
		}
	}
	if made < 50 || made == 120 {
		t.Error(made, "of 120 have a certificate")
	}
	for p := 1<<61 - 1; made > 0; p -= 2 { // the greatest primes that have one
		if c, e := Certify(p); e == api.OK {
			made -= 10
			expect(t, "near 2^61", c, true)
			if !equal(c, certificate(p)) {
				t.Error(p, c)
			}
		}
	}
}

// P5.4: no primes come before factors that are too big, which may be found at any depth.
func TestErrorsOfCertify(t *testing.T) {
	for _, n := range notPrimes() {
		if c, e := Certify(n); !equal(c, api.Cert{}) || e != api.ErrArg {
			t.Error(n, c, e)
		}
	}
	for _, n := range []int{above * above, above * beyond, 6 * above * beyond} {
		first := after(n)
		second := after(first)
		third := after(second)
		for _, p := range []int{first, second, third} {
			if c, e := Certify(p); !equal(c, api.Cert{}) || e != api.ErrBig {
				t.Error(p, c, e)
			}
		}
		if r, e := Root(third); r == 0 || e != api.OK {
			t.Error(third, r, e)
		}
	}
}

// apart reports whether no two slices of certificates have an element in common, not even in their capacities.
func apart(certs ...api.Cert) bool {
	words, parts := map[*uint32]bool{}, map[*api.Cert]bool{}
	ok := true
	var walk func(c api.Cert)
	walk = func(c api.Cert) {
		for _, n := range []api.Nat{c.N, c.Root} {
			w := n.W[:cap(n.W)]
			for i := range w {
				ok = ok && !words[&w[i]]
				words[&w[i]] = true
			}
		}
		l := c.Parts[:cap(c.Parts)]
		for i := range l {
			ok = ok && !parts[&l[i]]
			parts[&l[i]] = true
			walk(l[i])
		}
	}
	for _, c := range certs {
		walk(c)
	}
	return ok
}

// No parts of a certificate share memory, and none is kept for the next one.
func TestCertificatesAreNew(t *testing.T) {
	for _, p := range []int{2, 3, 5, 7, 257, 65537, 8101, 1<<61 - 1} {
		a, _ := Certify(p)
		b, _ := Certify(p)
		if !apart(a, b) {
			t.Error(p)
		}
	}
}

// times returns n copies of a certificate, which share memory.
func times(n int, c api.Cert) []api.Cert { return slices.Repeat([]api.Cert{c}, n) }

// smooth makes the certificate of a prime 2^a 3^b 5^c + 1.
func smooth(a, b, c int) api.Cert {
	return join(slices.Concat(times(a, certificate(2)), times(b, certificate(3)), times(c, certificate(5)))...)
}

// deep makes a right certificate with some levels: each prime is the next one of the form k p + 1.
func deep(levels int) api.Cert {
	c := certificate(2)
	for range levels {
		for k := 2; ; k += 2 {
			n := new(big.Int).Mul(value(c.N), big.NewInt(int64(k)))
			if n.Add(n, big.NewInt(1)).ProbablyPrime(0) {
				c = join(append(partsOf(k), c)...)
				break
			}
		}
	}
	return c
}

// fill makes a right certificate of a greater size, with c as a part, and other parts for 2, 3, and 5.
func fill(c api.Cert, size int) api.Cert {
	left := size - 1 - sizeOf(c)
	for fives := 0; ; fives++ {
		for threes := 0; 2*threes+3*fives < left; threes++ {
			twos := left - 2*threes - 3*fives
			n := new(big.Int).Mul(value(c.N), power(uint(twos), 0))
			n.Mul(n, new(big.Int).Exp(big.NewInt(3), big.NewInt(int64(threes)), nil))
			n.Mul(n, new(big.Int).Exp(big.NewInt(5), big.NewInt(int64(fives)), nil))
			if n.Add(n, big.NewInt(1)).ProbablyPrime(0) {
				return join(slices.Concat(times(twos, certificate(2)), times(threes, certificate(3)), times(fives, certificate(5)), []api.Cert{c})...)
			}
		}
	}
}

// P5.5: the greatest right certificates, and those that would be right but for their size.
func TestGreatestSizes(t *testing.T) {
	for _, c := range []struct{ twos, threes, fives, size int }{{976, 11, 0, 999}, {463, 268, 0, 1000}, {977, 8, 2, 1000}, {287, 355, 1, 1001}, {190, 402, 2, 1001}, {537, 232, 0, 1002}} {
		broad := smooth(c.twos, c.threes, c.fives)
		if !value(broad.N).ProbablyPrime(0) || !rightAt(broad) || sizeOf(broad) != c.size {
			t.Fatal("not what it is to be", c)
		}
		expect(t, "broad", broad, c.size <= 1000)
	}
	core := deep(100)
	for size := 1000; size <= 1001; size++ {
		c := fill(core, size)
		if !rightAt(c) || sizeOf(c) != size {
			t.Fatal("not what it is to be", c)
		}
		expect(t, "deep", c, size <= 1000)
	}
}

// nest wraps a certificate into others, each of which has it as its only part.
func nest(c api.Cert, levels int) api.Cert {
	for range levels {
		c = api.Cert{N: nat(3), Root: nat(2), Parts: []api.Cert{c}}
	}
	return c
}

// P5.5: sizes up to 1,000, of certificates that need not be right.
func TestSizes(t *testing.T) {
	var none api.Cert
	for _, c := range []struct {
		name string
		c    api.Cert
		size int
	}{
		{"none", none, 1},
		{"no valid numbers", api.Cert{N: nat(0, 0), Root: nat(0)}, 1},
		{"empty parts", api.Cert{Parts: []api.Cert{}}, 1},
		{"one part", nest(none, 1), 2},
		{"deeply, 999", nest(none, 998), 999},
		{"deeply, 1,000", nest(none, 999), 1000},
		{"deeply, 1,001", nest(none, 1000), 0},
		{"deeply, 5,000", nest(none, 4999), 0},
		{"broadly, 999", api.Cert{Parts: times(998, none)}, 999},
		{"broadly, 1,000", api.Cert{Parts: times(999, none)}, 1000},
		{"broadly, 1,001", api.Cert{Parts: times(1000, none)}, 0},
		{"broadly, 100,001", api.Cert{Parts: times(100000, none)}, 0},
		{"3 times 333", api.Cert{Parts: times(3, nest(none, 332))}, 1000},
		{"4 times 250", api.Cert{Parts: times(4, nest(none, 249))}, 0},
		{"the last one too many", api.Cert{Parts: append(times(2, nest(none, 499)), none)}, 0},
		{"broadly, at the end of 500", nest(api.Cert{Parts: times(499, none)}, 500), 1000},
		{"one more", nest(api.Cert{Parts: times(500, none)}, 500), 0},
		{"10 times 10", api.Cert{Parts: times(10, api.Cert{Parts: times(10, none)})}, 111},
		{"31 times 31", api.Cert{Parts: times(31, api.Cert{Parts: times(31, none)})}, 993},
		{"32 times 31", api.Cert{Parts: times(32, api.Cert{Parts: times(31, none)})}, 0},
		{"10 times 10 times 9", api.Cert{Parts: times(10, api.Cert{Parts: times(10, api.Cert{Parts: times(9, none)})})}, 0},
	} {
		expect(t, c.name, c.c, false)
		if n := Size(c.c); n != c.size {
			t.Error(c.name, n, c.size)
		}
	}
}

// P5.5: sizes that are out of all bounds, because parts share memory, or contain themselves.
func TestEndlessSizes(t *testing.T) {
	two := certificate(2)
	doubled := certificate(3)
	for range 200 {
		doubled = api.Cert{N: nat(5), Root: nat(2), Parts: times(2, doubled)}
	}
	loop := api.Cert{N: nat(3), Root: nat(2), Parts: []api.Cert{two}}
	loop.Parts[0] = loop
	wide := api.Cert{N: nat(5), Root: nat(2), Parts: times(2, two)}
	wide.Parts[1] = wide
	both := api.Cert{N: nat(5), Root: nat(2), Parts: times(2, two)}
	both.Parts[0], both.Parts[1] = both, both
	for i, c := range []api.Cert{doubled, loop, wide, both, {N: nat(7), Root: nat(3), Parts: []api.Cert{two, loop}}} {
		if Size(c) != 0 || Verify(c) {
			t.Error(i, Size(c))
		}
	}
}

// P5.5, P5.6: all roots, with the parts that are right: only primes have right certificates, and only with primitive roots.
func TestAllRoots(t *testing.T) {
	for n := 2; n < 80; n++ {
		parts := partsOf(n - 1)
		for r := range n + 3 {
			c := api.Cert{N: nat(uint32(n)), Root: number(big.NewInt(int64(r))), Parts: parts}
			all := 0 < r && r < n && isPrime(n) && period(r, n) == n-1
			expect(t, "a root", c, all)
		}
	}
}

// P5.5: all lists of up to three parts out of some right and wrong ones.
func TestAllParts(t *testing.T) {
	two := certificate(2)
	choice := []api.Cert{two, certificate(3), certificate(5), certificate(7), {}, {N: nat(1), Root: nat(1)}, {N: nat(1)}, {N: nat(4), Root: nat(3), Parts: []api.Cert{certificate(3)}}, {N: nat(6), Root: nat(5), Parts: []api.Cert{certificate(5)}}, {N: nat(3), Root: nat(1), Parts: []api.Cert{two}}}
	lists := [][]api.Cert{nil}
	for _, a := range choice {
		lists = append(lists, []api.Cert{a})
		for _, b := range choice {
			lists = append(lists, []api.Cert{a, b})
			for _, c := range choice {
				lists = append(lists, []api.Cert{a, b, c})
			}
		}
	}
	right := map[int]bool{}
	for _, parts := range lists {
		n := int64(1)
		for _, part := range parts {
			n *= value(part.N).Int64()
		}
		for r := range min(n+3, 13) {
			for d := range int64(3) {
				c := api.Cert{N: number(big.NewInt(n + d)), Root: number(big.NewInt(r)), Parts: parts}
				if check(t, c) {
					right[int(n+d)] = true
				}
			}
		}
	}
	for n := range 400 {
		l, _ := Factors(max(n-1, 1))
		if made := n > 1 && isPrime(n) && len(l) <= 3 && (len(l) == 0 || l[len(l)-1] <= 7); right[n] != made {
			t.Error(n, made)
		}
	}
}

// P5.5: the numbers of a certificate, and the root, that are not in their bounds, or not valid.
func TestBoundsOfVerify(t *testing.T) {
	two, seven := certificate(2), certificate(7)
	long := slices.Repeat([]uint32{full}, api.MaxWords+1)
	expect(t, "none", api.Cert{}, false)
	expect(t, "1", api.Cert{N: nat(1), Root: nat(1)}, false)
	expect(t, "1 without a root", api.Cert{N: nat(1)}, false)
	expect(t, "2 with the root 2", api.Cert{N: nat(2), Root: nat(2)}, false)
	expect(t, "2 with the root 3", api.Cert{N: nat(2), Root: nat(3)}, false)
	for _, root := range []api.Nat{nat(), nat(1), nat(6), nat(7), nat(8), nat(10), nat(0), nat(3, 0), nat(3, 1), {W: make([]uint32, 2000)}, {W: append(make([]uint32, 64), 3)}, {W: long}} {
		c := clone(seven)
		c.Root = root
		expect(t, "root", c, false)
	}
	for _, n := range []api.Nat{nat(), nat(1), nat(6), nat(8), nat(0), nat(0, 7), nat(7, 0), nat(7, 1), {W: make([]uint32, 2000)}, {W: append(nat(7).W, make([]uint32, 64)...)}, {W: long}} {
		c := clone(seven)
		c.N = n
		expect(t, "number", c, false)
		expect(t, "number without parts", api.Cert{N: n, Root: nat(1)}, false)
		c = clone(seven)
		c.Parts[1].N = n
		expect(t, "number of a part", c, false)
		c = clone(seven)
		c.Parts = append(c.Parts, api.Cert{N: n, Root: nat(1)})
		expect(t, "one part more", c, false)
		c.Parts = append([]api.Cert{{N: n, Root: nat(1)}}, seven.Parts...)
		expect(t, "one part before", c, false)
	}
	for _, parts := range [][]api.Cert{nil, {two}, seven.Parts[1:], {seven}, times(2, two), append(times(1, two), seven.Parts...), {certificate(3), two}} {
		expect(t, "parts of 7", api.Cert{N: nat(7), Root: nat(3), Parts: parts}, false)
	}
}

// P5.5: numbers around 1,024 bits, and up to 2,048, have no right certificates, because their sizes are greater than 1,000.
func TestLongNumbers(t *testing.T) {
	for _, bits := range []uint{999, 1000, 1023, 1024, 1025, 2000, 2047, 2048} {
		for _, d := range []int64{-1, 1} {
			n := power(bits, d)
			for _, root := range []*big.Int{big.NewInt(1), big.NewInt(3), power(bits, d-1)} {
				expect(t, "long", api.Cert{N: number(n), Root: number(root), Parts: times(min(int(bits), 999), certificate(2))}, false)
				expect(t, "long, without parts", api.Cert{N: number(n), Root: number(root)}, false)
			}
		}
	}
	greatest := api.Cert{N: number(power(2048, -1)), Root: nat(1)}
	expect(t, "a product that is too big", api.Cert{N: number(power(1024, -1)), Root: nat(1), Parts: times(3, greatest)}, false)
	for _, c := range []struct{ twos, threes int }{{1023, 0}, {976, 11 + 30}} { // products with the right length, but too many parts
		expect(t, "too many", api.Cert{N: number(power(1023, 1)), Root: nat(3), Parts: slices.Concat(times(c.twos, certificate(2)), times(c.threes, certificate(3)))}, false)
	}
	for n := 1; ; n++ { // a prime of more than 1,024 bits, with right parts
		if z := new(big.Int).Mul(power(1030, 0), big.NewInt(int64(2*n+1))); new(big.Int).Add(z, big.NewInt(1)).ProbablyPrime(0) {
			c := join(slices.Concat(times(1030, certificate(2)), partsOf(2*n+1))...)
			expect(t, "a long prime", c, false)
			return
		}
	}
}

// P5.5: a number that is no prime, whose power N - 1 of the root is 1, or whose other powers are not.
func TestFewPowers(t *testing.T) {
	for _, c := range []struct{ n, root uint32 }{{9, 8}, {9, 2}, {15, 4}, {15, 2}, {21, 8}, {25, 7}, {25, 2}, {561, 2}, {561, 50}, {2047, 2}, {4, 3}, {6, 5}} {
		expect(t, "no prime", api.Cert{N: nat(c.n), Root: nat(c.root), Parts: partsOf(int(c.n) - 1)}, false)
	}
	for _, p := range []int{31, 211, 2311, 1<<31 - 1, 1<<61 - 1} {
		c := certificate(p)
		expect(t, "a prime", c, true)
		l, _ := Factors(p - 1)
		for _, q := range slices.Compact(l) { // all powers are right but one
			wrong := clone(c)
			wrong.Root = number(new(big.Int).Exp(value(c.Root), big.NewInt(int64(q)), big.NewInt(int64(p))))
			expect(t, "a power of a root", wrong, false)
		}
		other := clone(c)
		other.Root = number(new(big.Int).Exp(value(c.Root), big.NewInt(int64(p-2)), big.NewInt(int64(p))))
		expect(t, "another root", other, true)
	}
}

// forAll calls f for a certificate and all in it.
func forAll(c *api.Cert, f func(c *api.Cert)) {
	f(c)
	for i := range c.Parts {
		forAll(&c.Parts[i], f)
	}
}

// P5.5: one part that is not right, at any depth, with a wrong root, number, or list of parts.
func TestWrongAtAnyDepth(t *testing.T) {
	for _, c := range []api.Cert{certificate(8101), certificate(1<<61 - 1), deep(20)} {
		expect(t, "before", c, true)
		forAll(&c, func(at *api.Cert) {
			old := *at
			at.Root = nat()
			expect(t, "the root 0", c, false)
			at.Root = old.N
			expect(t, "the root N", c, false)
			at.Root = number(new(big.Int).Sub(value(old.N), big.NewInt(1)))
			expect(t, "the root N - 1", c, slices.Contains([]uint32{2, 3}, at.N.W[0]) && len(at.N.W) == 1)
			at.Root = nat(append(slices.Clone(old.Root.W), 0)...)
			expect(t, "no valid root", c, false)
			*at = old
			at.N = nat(append(slices.Clone(old.N.W), 0)...)
			expect(t, "no valid number", c, false)
			*at = old
			at.Parts = append(slices.Clone(old.Parts), api.Cert{N: nat(1), Root: nat(1)})
			expect(t, "the part 1", c, false)
			if len(old.Parts) > 0 {
				at.Parts = old.Parts[1:]
				expect(t, "without the first part", c, false)
				at.Parts = old.Parts[:len(old.Parts)-1]
				expect(t, "without the last part", c, false)
			}
			if turned := slices.Clone(old.Parts); len(turned) > 0 && value(turned[0].N).Cmp(value(turned[len(turned)-1].N)) < 0 {
				slices.Reverse(turned)
				at.Parts = turned
				expect(t, "parts that descend", c, false)
			}
			*at = old
		})
		expect(t, "after", c, true)
	}
}

// P5.5: numbers and parts that share memory are judged by their values alone.
func TestSharedMemory(t *testing.T) {
	two := certificate(2)
	expect(t, "parts", api.Cert{N: nat(65537), Root: nat(3), Parts: times(16, two)}, true)
	w := []uint32{3, 2}
	expect(t, "2 and 3", api.Cert{N: nat(w[:1]...), Root: nat(w[1:]...), Parts: []api.Cert{{N: api.Nat{W: w[1:]}, Root: nat(1)}}}, true)
	w = []uint32{7, 3, 2, 1}
	three := api.Cert{N: api.Nat{W: w[1:2]}, Root: api.Nat{W: w[2:3]}, Parts: []api.Cert{{N: api.Nat{W: w[2:3]}, Root: api.Nat{W: w[3:]}}}}
	expect(t, "one array", api.Cert{N: api.Nat{W: w[:1]}, Root: api.Nat{W: w[1:2]}, Parts: []api.Cert{three.Parts[0], three}}, true)
	for p := 1<<32 + 1; ; p += 2 { // a root that is the lowest word of its number
		if low := p - 1<<32; isPrime(p) && low > 1 {
			l := partsOf(p - 1)
			if n := number(big.NewInt(int64(p))); isRootOf(big.NewInt(int64(low)), big.NewInt(int64(p)), numbersOf(l)) {
				expect(t, "one in the other", api.Cert{N: n, Root: api.Nat{W: n.W[:1]}, Parts: l}, true)
				return
			}
		}
	}
}

// P5.5: certificates that were changed at random are right as long as their definition says so.
func TestRandomChanges(t *testing.T) {
	r := rand.New(rand.NewSource(5))
	right := 0
	for range 6000 {
		c := certificate([]int{2, 3, 5, 7, 11, 13, 43, 101, 8101, 65537, 1<<31 - 1, 1<<61 - 1}[r.Intn(12)])
		var all []*api.Cert
		forAll(&c, func(c *api.Cert) { all = append(all, c) })
		change(r, all[r.Intn(len(all))])
		if check(t, c) {
			right++
		}
	}
	if right < 500 || right > 5500 {
		t.Error(right, "of 6,000 are right")
	}
}

// change changes one certificate in some way, which may leave it right.
func change(r *rand.Rand, c *api.Cert) {
	n := value(c.N)
	i, j := r.Intn(len(c.Parts)+1), r.Intn(len(c.Parts)+1)
	switch r.Intn(8) {
	case 0, 1, 2:
		c.Root = number(new(big.Int).Rand(r, n))
	case 3:
		c.N = number(n.Add(n, big.NewInt(int64(r.Intn(3)))))
	case 4:
		if i < len(c.Parts) && j < len(c.Parts) {
			c.Parts[i], c.Parts[j] = c.Parts[j], c.Parts[i]
		}
	case 5:
		c.Parts = slices.Insert(c.Parts, i, certificate([]int{2, 3, 5}[r.Intn(3)]))
	case 6:
		if i < len(c.Parts) {
			c.Parts = slices.Delete(c.Parts, i, i+1)
		}
	case 7:
		if i < len(c.Parts) && j < len(c.Parts) && i < j { // two parts become one, which is no prime
			c.Parts[i].N = number(n.Mul(value(c.Parts[i].N), value(c.Parts[j].N)))
			c.Parts = slices.Delete(c.Parts, j, j+1)
		}
	}
}
