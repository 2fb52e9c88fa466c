package amp

import (
	"math/bits"

	"photonmesh/api"
)

// Real reports whether z is equal to its conjugate.
func Real(z api.Num) (bool, api.Errno) {
	c, e := Conj(z)
	// Every number has one form, so that equal numbers are equal structs.
	return e == api.OK && z == c, e
}

// Sign returns -1, 0 or 1 as the real number z is less than, equal to, or greater than 0.
func Sign(z api.Num) (int, api.Errno) {
	return Cmp(z, api.Num{})
}

// Cmp returns the sign of x - y, for real x and y.
func Cmp(x, y api.Num) (int, api.Errno) {
	if e := checkReal(x, y); e != api.OK {
		return 0, e
	}
	a, _ := combined(x, y, -1)
	return sign(a), api.OK
}

// checkReal returns ErrNum if a number is not valid, ErrReal if one is not real.
func checkReal(l ...api.Num) api.Errno {
	if e := check(l...); e != api.OK {
		return e
	}
	for _, z := range l {
		if is, _ := Real(z); !is {
			return api.ErrReal
		}
	}
	return api.OK
}

// sign returns the sign of a real sum, which is a[0] + a[1] r.
func sign(a [4]int) int {
	switch {
	case a == [4]int{}:
		return 0
	case floor(a[0], a[1]) < 0:
		return -1
	}
	return 1
}

// Bounds returns the whole numbers next to the parts of z times 2^bits.
func Bounds(z api.Num, bits int) (re, im api.Span, err api.Errno) {
	if e := check(z); e != api.OK {
		return api.Span{}, api.Span{}, e
	}
	if bits < 0 || bits > 30 {
		return api.Span{}, api.Span{}, api.ErrArg
	}
	// w is (1 + i) / r and w^3 is (-1 + i) / r: multiplied by r^(K + 1), the real
	// part is a[0] r + a[1] - a[3], and the imaginary part a[2] r + a[1] + a[3].
	n := 2*bits - z.K - 1
	a := z.A
	return around(a[1]-a[3], a[0], n), around(a[1]+a[3], a[2], n), api.OK
}

// around returns the whole numbers next to (p + q r) * r^n, for n from -41 to 59.
func around(p, q, n int) api.Span {
	if n%2 != 0 {
		p, q, n = 2*q, p, n-1
	}
	if n > 0 {
		p, q, n = p<<(n/2), q<<(n/2), 0
	}
	// Rounding before the division makes no difference: n is not above 0 here, and
	// multiples of 2^(-n/2) are whole.
	return api.Span{Lo: floor(p, q) >> (-n / 2), Hi: -(floor(-p, -q) >> (-n / 2))}
}

// floor returns p + q r, rounded down; both are less than 2^61 in absolute value.
func floor(p, q int) int {
	if q < 0 {
		// q r is not whole.
		return p - rootTimes(-q) - 1
	}
	return p + rootTimes(q)
}

// rootTimes returns q r, rounded down, for q from 0 to 2^61.
func rootTimes(q int) int {
	// t is the greatest number with t^2 at most 2 q^2, formed bit by bit.
	high, low := bits.Mul64(uint64(q), 2*uint64(q))
	t := uint64(0)
	for bit := uint64(1) << 61; bit > 0; bit >>= 1 {
		h, l := bits.Mul64(t|bit, t|bit)
		if h < high || h == high && l <= low {
			t |= bit
		}
	}
	return int(t)
}
