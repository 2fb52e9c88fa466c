package matrix

import (
	"math/bits"

	"photonmesh/api"
)

// wide is a whole number of 384 bits in two's complement, the lowest word first.
// The greatest ones are coefficients of permanents of 6 rows: 720 products of 6
// sums, of which each is less than 4^5 * (2^50)^6, together less than 2^320.
type wide [6]uint64

// widen returns n as a wide number.
func widen(n int) wide {
	var x wide
	x[0] = uint64(n)
	for i := 1; i < len(x); i++ {
		x[i] = uint64(n >> 63)
	}
	return x
}

// narrow returns x as a coefficient, and whether it is small enough for that.
func (x wide) narrow() (int, bool) {
	n := int(x[0])
	if widen(n) != x || n < -api.MaxCoef || n > api.MaxCoef {
		return 0, false
	}
	return n, true
}

// plus returns x + y.
func (x wide) plus(y wide) wide {
	carry := uint64(0)
	for i := range x {
		x[i], carry = bits.Add64(x[i], y[i], carry)
	}
	return x
}

// minus returns x - y.
func (x wide) minus(y wide) wide {
	borrow := uint64(0)
	for i := range x {
		x[i], borrow = bits.Sub64(x[i], y[i], borrow)
	}
	return x
}

// times returns x * n.
func (x wide) times(n int) wide {
	factor := uint64(n)
	if n < 0 {
		x, factor = wide{}.minus(x), -factor
	}
	rest := uint64(0)
	for i := range x {
		high, low := bits.Mul64(x[i], factor)
		word, carry := bits.Add64(low, rest, 0)
		x[i], rest = word, high+carry
	}
	return x
}

// odd reports whether x is odd.
func (x wide) odd() bool {
	return x[0]&1 == 1
}

// halved returns x / 2, for even x.
func (x wide) halved() wide {
	last := len(x) - 1
	for i := range last {
		x[i] = x[i]>>1 | x[i+1]<<63
	}
	x[last] = uint64(int64(x[last]) >> 1)
	return x
}
