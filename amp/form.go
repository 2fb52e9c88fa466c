package amp

import "photonmesh/api"

// This file computes with sums a[0] + a[1] w + a[2] w^2 + a[3] w^3. None of it
// overflows: elements of products of valid numbers are at most 4 * 10^18, those
// given to Make at most 2^60, and a division by r makes the greatest element no
// greater.

// reduced returns the number a / r^k in its form, or ErrLimit if it has none.
func reduced(a [4]int, k int) (api.Num, api.Errno) {
	for k > 0 && divisible(a) {
		a = timesRoot(a)
		for i := range a {
			a[i] /= 2
		}
		k--
	}
	z := api.Num{A: a, K: k}
	if !Valid(z) {
		return api.Num{}, api.ErrLimit
	}
	return z, api.OK
}

// divisible reports whether a divided by r is such a sum again.
func divisible(a [4]int) bool {
	return (a[0]+a[2])%2 == 0 && (a[1]+a[3])%2 == 0
}

// timesRoot returns a * r, with r = w - w^3.
func timesRoot(a [4]int) [4]int {
	return [4]int{a[1] - a[3], a[0] + a[2], a[1] + a[3], a[2] - a[0]}
}

// timesRoots returns a * r^n.
func timesRoots(a [4]int, n int) [4]int {
	if n%2 == 1 {
		a = timesRoot(a)
	}
	for i := range a {
		a[i] *= 1 << (n / 2)
	}
	return a
}

// combined returns x + sign * y as a sum and the exponent of its divisor.
func combined(x, y api.Num, sign int) ([4]int, int) {
	k := max(x.K, y.K)
	a := timesRoots(x.A, k-x.K)
	b := timesRoots(y.A, k-y.K)
	for i := range a {
		a[i] += sign * b[i]
	}
	return a, k
}

// product returns a * b.
func product(a, b [4]int) [4]int {
	var c [4]int
	for i := range a {
		for j := range b {
			if i+j < 4 {
				c[i+j] += a[i] * b[j]
			} else { // w^4 is -1
				c[i+j-4] -= a[i] * b[j]
			}
		}
	}
	return c
}

// negated returns -a.
func negated(a [4]int) [4]int {
	return [4]int{-a[0], -a[1], -a[2], -a[3]}
}

// conjugate returns the conjugate of a: that of w is -w^3, that of w^2 is -w^2.
func conjugate(a [4]int) [4]int {
	return [4]int{a[0], -a[3], -a[2], -a[1]}
}
