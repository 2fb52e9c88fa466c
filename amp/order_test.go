package amp_test

import (
	"fmt"
	"math"
	"math/big"
	"testing"

	"photonmesh/amp"
	"photonmesh/api"
)

// P1.5
func TestReal(t *testing.T) {
	for _, c := range []struct {
		z    api.Num
		want bool
	}{
		{zero, true}, {one, true}, {num(-1, 0, 0, 0, 40), true}, {root, true}, {num(1, 1, 0, -1, 1), true}, {num(5, -3, 0, 3, 8), true},
		{w, false}, {num(0, 0, 1, 0, 0), false}, {num(0, 0, 0, 1, 0), false}, {num(0, 1, 0, 1, 0), false}, {num(1, 1, 0, -2, 0), false}, {num(1, 1, 1, -1, 0), false},
		{num(1000000000, 1000000000, 0, -1000000000, 0), true}, {num(1000000000, 1000000000, 0, -999999999, 40), false},
	} {
		if is, e := amp.Real(c.z); is != c.want || e != api.OK {
			t.Errorf("Real(%v) = %v, %d", c.z, is, e)
		}
	}
	for _, z := range samples(300) {
		want := z.A[2] == 0 && z.A[1] == -z.A[3]
		if is, e := amp.Real(z); is != want || e != api.OK {
			t.Errorf("Real(%v) = %v, %d", z, is, e)
		}
	}
}

// P1.6
func TestSign(t *testing.T) {
	for _, c := range []struct {
		z    api.Num
		want int
	}{
		{zero, 0}, {one, 1}, {num(-1, 0, 0, 0, 40), -1}, {root, 1}, {num(0, -1, 0, 1, 0), -1}, {num(2, -1, 0, 1, 0), 1}, {num(1, -1, 0, 1, 0), -1},
		{num(-7, 5, 0, -5, 3), 1}, {num(7, -5, 0, 5, 3), -1}, {num(-1000000000, 1000000000, 0, -1000000000, 0), 1}, {num(-1000000000, -1, 0, 1, 0), -1}, {num(1, 1, 0, -1, 5), 1},
	} {
		if n, e := amp.Sign(c.z); n != c.want || e != api.OK {
			t.Errorf("Sign(%v) = %d, %d", c.z, n, e)
		}
	}
	// The fractions p / q that are nearest to r, in turn less and greater.
	for p, q, want := 1, 1, -1; p <= api.MaxCoef; p, q, want = p+2*q, p+q, -want {
		for k := range 41 {
			z, e := amp.Make([4]int{p, -q, 0, q}, k)
			if e != api.OK {
				continue
			}
			if n, e := amp.Sign(z); n != want || e != api.OK {
				t.Errorf("Sign(%v) = %d, %d", z, n, e)
			}
			minus, _ := amp.Neg(z)
			if n, e := amp.Sign(minus); n != -want || e != api.OK {
				t.Errorf("Sign(%v) = %d, %d", minus, n, e)
			}
		}
	}
	for _, z := range reals(300) {
		x := widen(z)
		if n, e := amp.Sign(z); n != signOf(x.a[0], x.a[1]) || e != api.OK {
			t.Errorf("Sign(%v) = %d, %d", z, n, e)
		}
	}
}

// P1.6
func TestCmp(t *testing.T) {
	l := reals(80)
	for _, x := range l {
		for _, y := range l {
			d := widen(x).plus(widen(y), -1)
			if n, e := amp.Cmp(x, y); n != signOf(d.a[0], d.a[1]) || e != api.OK {
				t.Errorf("Cmp(%v, %v) = %d, %d", x, y, n, e)
			}
		}
	}
}

// P1.6: the difference needs more than 64 bits to be squared
func TestCmpIsExact(t *testing.T) {
	top := num(1000000000, 0, 0, 0, 0)
	if n, e := amp.Cmp(top, num(1, 0, 0, 0, 40)); n != 1 || e != api.OK {
		t.Errorf("Cmp: %d, %d", n, e)
	}
	if n, e := amp.Cmp(num(-1000000000, 0, 0, 0, 0), top); n != -1 || e != api.OK {
		t.Errorf("Cmp: %d, %d", n, e)
	}
	const step = 1 << 20
	for p, q, want := 1, 1, -1; p <= api.MaxCoef*step; p, q, want = p+2*q, p+q, -want {
		// x - y is (p - q r) / 2^20.
		x, e := amp.Make([4]int{p / step, -(q / step), 0, q / step}, 0)
		if e != api.OK {
			t.Fatalf("Make: %d", e)
		}
		y, e := amp.Make([4]int{-(p % step), q % step, 0, -(q % step)}, 40)
		if e != api.OK {
			t.Fatalf("Make: %d", e)
		}
		if n, e := amp.Cmp(x, y); n != want || e != api.OK {
			t.Errorf("Cmp(%v, %v) = %d, %d", x, y, n, e)
		}
		if n, e := amp.Cmp(y, x); n != -want || e != api.OK {
			t.Errorf("Cmp(%v, %v) = %d, %d", y, x, n, e)
		}
	}
}

// P1.6
func TestOnlyRealNumbersHaveAnOrder(t *testing.T) {
	for _, z := range []api.Num{w, num(0, 0, 1, 0, 0), num(0, 0, 0, 1, 0), num(3, 1, 0, 1, 0), num(1, 0, -2, 0, 2), num(2, 1, 1, -1, 0)} {
		if n, e := amp.Sign(z); n != 0 || e != api.ErrReal {
			t.Errorf("Sign(%v) = %d, %d", z, n, e)
		}
		// The difference of a number and itself would be real.
		for _, pair := range [][2]api.Num{{z, one}, {one, z}, {z, z}} {
			if n, e := amp.Cmp(pair[0], pair[1]); n != 0 || e != api.ErrReal {
				t.Errorf("Cmp(%v) = %d, %d", pair, n, e)
			}
		}
	}
}

// below reports whether n is at most (p + q r) / r^k * 2^bits.
func below(n, p, q, k, bits int) bool {
	part := widen(zero)
	part.a[0].Lsh(big.NewInt(int64(p)), uint(bits))
	part.a[1].Lsh(big.NewInt(int64(q)), uint(bits))
	part.a[3].Neg(part.a[1])
	part.k = k
	whole := widen(zero)
	whole.a[0].SetInt64(int64(n))
	d := part.plus(whole, -1)
	return signOf(d.a[0], d.a[1]) >= 0
}

// P1.7
func TestBounds(t *testing.T) {
	for _, c := range []struct {
		z      api.Num
		bits   int
		re, im api.Span
	}{
		{zero, 30, api.Span{}, api.Span{}},
		{w, 4, api.Span{Lo: 11, Hi: 12}, api.Span{Lo: 11, Hi: 12}},
		{num(0, 0, 0, 1, 0), 4, api.Span{Lo: -12, Hi: -11}, api.Span{Lo: 11, Hi: 12}},
		{num(-1, 0, 1, 0, 0), 30, api.Span{Lo: -1 << 30, Hi: -1 << 30}, api.Span{Lo: 1 << 30, Hi: 1 << 30}},
		{num(1, 0, -2, 0, 2), 0, api.Span{Lo: 0, Hi: 1}, api.Span{Lo: -1, Hi: -1}},
		{num(-1, 0, 0, 0, 1), 4, api.Span{Lo: -12, Hi: -11}, api.Span{}},
		{num(1, 0, 0, 0, 40), 20, api.Span{Lo: 1, Hi: 1}, api.Span{}},
		{num(-1, 0, 0, 0, 40), 19, api.Span{Lo: -1, Hi: 0}, api.Span{}},
		{num(0, 1, 0, 1, 0), 0, api.Span{}, api.Span{Lo: 1, Hi: 2}},
		{num(1, 0, 0, 0, 39), 0, api.Span{Lo: 0, Hi: 1}, api.Span{}},
	} {
		if re, im, e := amp.Bounds(c.z, c.bits); re != c.re || im != c.im || e != api.OK {
			t.Errorf("Bounds(%v, %d) = %v, %v, %d", c.z, c.bits, re, im, e)
		}
	}
	for _, z := range samples(60) {
		for bits := 0; bits <= 30; bits++ {
			re, im, e := amp.Bounds(z, bits)
			if e != api.OK {
				t.Fatalf("Bounds(%v, %d): %d", z, bits, e)
			}
			checkSpan(t, fmt.Sprint("real part", z, bits), re, z.A[1]-z.A[3], z.A[0], z.K+1, bits)
			checkSpan(t, fmt.Sprint("imaginary part", z, bits), im, z.A[1]+z.A[3], z.A[2], z.K+1, bits)
		}
	}
}

// checkSpan reports bounds that are not those of (p + q r) / r^k * 2^bits.
func checkSpan(t *testing.T, what string, s api.Span, p, q, k, bits int) {
	t.Helper()
	if !below(s.Lo, p, q, k, bits) || below(s.Lo+1, p, q, k, bits) {
		t.Errorf("%s: %v: Lo", what, s)
	}
	if !below(-s.Hi, -p, -q, k, bits) || below(-s.Hi+1, -p, -q, k, bits) {
		t.Errorf("%s: %v: Hi", what, s)
	}
}

// P1.7
func TestBoundsArguments(t *testing.T) {
	for _, bits := range []int{-1, 31, math.MinInt, math.MaxInt} {
		if re, im, e := amp.Bounds(w, bits); re != (api.Span{}) || im != (api.Span{}) || e != api.ErrArg {
			t.Errorf("Bounds(w, %d) = %v, %v, %d", bits, re, im, e)
		}
	}
}
