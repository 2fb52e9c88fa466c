// Package amp is layer 1: exact amplitudes, which are sums of eighths of a turn
// divided by powers of the root of 2, as shared/doc/01-amp.md describes them.
package amp

import "photonmesh/api"

const (
	maxElement  = 1 << 60 // absolute value of an element for Make
	maxExponent = 1000    // exponent for Make
	maxTerms    = 1000    // numbers for Sum
	maxHalve    = 100     // powers of the root of 2 for Halve
)

// Valid reports whether z is a number in its only form.
func Valid(z api.Num) bool {
	for _, c := range z.A {
		if c < -api.MaxCoef || c > api.MaxCoef {
			return false
		}
	}
	return z.K == 0 || z.K > 0 && z.K <= api.MaxExp && !divisible(z.A)
}

// Make returns the number (a[0] + .. + a[3] w^3) / r^k in its form.
func Make(a [4]int, k int) (api.Num, api.Errno) {
	for _, c := range a {
		if c < -maxElement || c > maxElement {
			return api.Num{}, api.ErrArg
		}
	}
	if k < 0 || k > maxExponent {
		return api.Num{}, api.ErrArg
	}
	return reduced(a, k)
}

// Add returns x + y.
func Add(x, y api.Num) (api.Num, api.Errno) {
	if e := check(x, y); e != api.OK {
		return api.Num{}, e
	}
	return reduced(combined(x, y, 1))
}

// Sub returns x - y.
func Sub(x, y api.Num) (api.Num, api.Errno) {
	if e := check(x, y); e != api.OK {
		return api.Num{}, e
	}
	return reduced(combined(x, y, -1))
}

// Mul returns x * y.
func Mul(x, y api.Num) (api.Num, api.Errno) {
	if e := check(x, y); e != api.OK {
		return api.Num{}, e
	}
	return reduced(product(x.A, y.A), x.K+y.K)
}

// Sum adds the elements of l to 0, from the first one on.
func Sum(l []api.Num) (api.Num, api.Errno) {
	if len(l) > maxTerms {
		return api.Num{}, api.ErrArg
	}
	if e := check(l...); e != api.OK {
		return api.Num{}, e
	}
	var total api.Num
	for _, z := range l {
		next, e := Add(total, z)
		if e != api.OK {
			return api.Num{}, e
		}
		total = next
	}
	return total, api.OK
}

// Neg returns -z.
func Neg(z api.Num) (api.Num, api.Errno) {
	return changed(z, negated)
}

// Conj returns the conjugate of z.
func Conj(z api.Num) (api.Num, api.Errno) {
	return changed(z, conjugate)
}

// Flip returns the number that z becomes when the root of 2 becomes -1 times itself.
func Flip(z api.Num) (api.Num, api.Errno) {
	return changed(z, func(a [4]int) [4]int {
		a[1], a[3] = -a[1], -a[3]
		// The divisor r^K changes its sign too.
		if z.K%2 == 1 {
			a = negated(a)
		}
		return a
	})
}

// Turn returns z * w^n.
func Turn(z api.Num, n int) (api.Num, api.Errno) {
	return changed(z, func(a [4]int) [4]int {
		// The last three bits are n modulo 8 for negative n as well.
		for range n & 7 {
			a = [4]int{-a[3], a[0], a[1], a[2]}
		}
		return a
	})
}

// Halve returns z / r^n.
func Halve(z api.Num, n int) (api.Num, api.Errno) {
	if e := check(z); e != api.OK {
		return api.Num{}, e
	}
	if n < 0 || n > maxHalve {
		return api.Num{}, api.ErrArg
	}
	return reduced(z.A, z.K+n)
}

// Power returns the square of the absolute value of z.
func Power(z api.Num) (api.Num, api.Errno) {
	if e := check(z); e != api.OK {
		return api.Num{}, e
	}
	return reduced(product(z.A, conjugate(z.A)), 2*z.K)
}

// check returns ErrNum if one of the numbers is not valid.
func check(l ...api.Num) api.Errno {
	for _, z := range l {
		if !Valid(z) {
			return api.ErrNum
		}
	}
	return api.OK
}

// changed returns z with the sum that f makes of its sum.
func changed(z api.Num, f func(a [4]int) [4]int) (api.Num, api.Errno) {
	if e := check(z); e != api.OK {
		return api.Num{}, e
	}
	return reduced(f(z.A), z.K)
}
