// Package word is layer 1, arithmetic modulo numbers below 2^61: see shared/doc/01-word.md.
package word

import (
	"math"
	"math/bits"

	"specie/api"
)

// Add returns the residue a + b.
func Add(a, b, m int) (int, api.Errno) {
	if e := check(a, b, m); e != api.OK {
		return 0, e
	}
	return (a + b) % m, api.OK
}

// Sub returns the residue a - b.
func Sub(a, b, m int) (int, api.Errno) {
	if e := check(a, b, m); e != api.OK {
		return 0, e
	}
	return (a - b + m) % m, api.OK
}

// Mul returns the residue a b.
func Mul(a, b, m int) (int, api.Errno) {
	if e := check(a, b, m); e != api.OK {
		return 0, e
	}
	return mul(a, b, m), api.OK
}

// Pow returns the residue a to the power of e.
func Pow(a, e, m int) (int, api.Errno) {
	switch f := check(a, 0, m); {
	case f != api.OK:
		return 0, f
	case e < 0:
		return 0, api.ErrRange
	}
	power := 1 % m
	for ; e > 0; e >>= 1 {
		if e&1 == 1 {
			power = mul(power, a, m)
		}
		a = mul(a, a, m)
	}
	return power, api.OK
}

// Inverse returns the residue x for which a x is congruent to 1.
func Inverse(a, m int) (int, api.Errno) {
	if e := check(a, 0, m); e != api.OK {
		return 0, e
	}
	x, d := euclid(a, m)
	if d != 1 {
		return 0, api.ErrZero
	}
	return x, api.OK
}

// Reduce returns the residue that is congruent to any integer a.
func Reduce(a, m int) (int, api.Errno) {
	if e := check(0, 0, m); e != api.OK {
		return 0, e
	}
	rest := a % m
	if rest < 0 {
		rest += m
	}
	return rest, api.OK
}

// Gcd returns the greatest common divisor of a and b, or 0 where an int cannot hold it.
func Gcd(a, b int) int {
	x, y := size(a), size(b)
	for y != 0 {
		x, y = y, x%y
	}
	if x > math.MaxInt {
		return 0
	}
	return int(x)
}

// Solve returns the least solution x of a x = b, and the step from one solution to the next.
func Solve(a, b, m int) (x, step int, e api.Errno) {
	if e = check(a, b, m); e != api.OK {
		return 0, 0, e
	}
	y, d := euclid(a, m)
	if b%d != 0 {
		return 0, 0, api.ErrNone
	}
	step = m / d
	return mul(y, b/d, m) % step, step, api.OK
}

// Jacobi returns the Jacobi symbol of a modulo n.
func Jacobi(a, n int) (int, api.Errno) {
	switch e := check(a, 0, n); {
	case n%2 == 0: // before a is judged: an even n is no odd modulus
		return 0, api.ErrArg
	case e != api.OK:
		return 0, e
	}
	return jacobi(a, n), api.OK
}

// check returns the error of two residues and their modulus. Where there is only one residue, the other is given as 0, which is a residue of every modulus.
func check(a, b, m int) api.Errno {
	switch {
	case m < 1 || m >= api.MaxWord:
		return api.ErrArg
	case a < 0 || a >= m || b < 0 || b >= m:
		return api.ErrRange
	}
	return api.OK
}

// mul multiplies two residues. The upper word of the product is less than m, as Div64 demands, because both residues are.
func mul(a, b, m int) int {
	high, low := bits.Mul64(uint64(a), uint64(b))
	_, rest := bits.Div64(high, low, uint64(m))
	return int(rest)
}

// euclid returns the greatest common divisor d of a residue a and m, and the residue x for which a x is congruent to d. The factors never exceed m in size, so that nothing wraps around.
func euclid(a, m int) (x, d int) {
	d, rest, next := m, a, 1
	for rest != 0 {
		q := d / rest
		d, rest = rest, d-q*rest
		x, next = next, x-q*next
	}
	if x < 0 {
		x += m
	}
	return x, d
}

// size returns the absolute value of a; that of the smallest int is no int.
func size(a int) uint64 {
	if a < 0 {
		return -uint64(a)
	}
	return uint64(a)
}

// jacobi takes factors of 2 out of a, and then exchanges a and n by the law of reciprocity.
func jacobi(a, n int) int {
	sign := 1
	for a != 0 {
		twos := bits.TrailingZeros64(uint64(a))
		a >>= twos
		if twos%2 == 1 && (n%8 == 3 || n%8 == 5) {
			sign = -sign
		}
		if a%4 == 3 && n%4 == 3 {
			sign = -sign
		}
		a, n = n%a, a
	}
	if n > 1 {
		return 0
	}
	return sign
}
