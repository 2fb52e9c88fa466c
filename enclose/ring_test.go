package enclose_test

import (
	"math"
	"math/cmplx"
	"testing"

	"photonmesh/amp"
	"photonmesh/api"
	"photonmesh/enclose"
)

// near reports whether x encloses z, which is a result with floats that is off by at most slack.
func near(x api.Rect, z complex128, slack float64) bool {
	in := func(s api.Span, v float64) bool {
		return float64(s.Lo) <= (v+slack)*one && (v-slack)*one <= float64(s.Hi)
	}
	return in(x.Re, real(z)) && in(x.Im, imag(z))
}

// turned returns the point of the unit circle at n parts of 1024 of a turn.
func turned(n int) complex128 { return cmplx.Rect(1, 2*math.Pi*float64(n)/1024) }

// P5.4
func TestUnitExamples(t *testing.T) {
	eighth := span(759250124, 759250125)
	for _, c := range []struct {
		n    int
		want api.Rect
	}{
		{0, point(one, 0)}, {256, point(0, one)}, {512, point(-one, 0)}, {768, point(0, -one)}, {1024, point(one, 0)}, {-256, point(0, -one)}, {-1024, point(one, 0)},
		{128, api.Rect{Re: eighth, Im: eighth}}, {-1024 + 128, api.Rect{Re: eighth, Im: eighth}}, {math.MinInt, point(one, 0)}, {math.MinInt + 256, point(0, one)}, {math.MaxInt - 255, point(0, -one)},
	} {
		got, e := enclose.Unit(c.n)
		expect(t, call("Unit", c.n), got, e, c.want, api.OK)
	}
}

// P5.4, P5.9
func TestUnit(t *testing.T) {
	for n := range 1024 {
		want := readUnit(n).narrow()
		for _, m := range []int{n, n - 1024, n + 1024, n + 1024000, n - 1024000, math.MinInt + n, math.MaxInt - 1023 + n} {
			got, e := enclose.Unit(m)
			expect(t, call("Unit", m), got, e, want, api.OK)
		}
		if !near(want, turned(n), 1e-13) {
			t.Errorf("Unit(%d) = %v does not enclose %v", n, want, turned(n))
		}
		if width, e := enclose.Width(want); e != api.OK || width > 250 {
			t.Errorf("Unit(%d) = %v is as wide as %d", n, want, width)
		}
		if p, e := enclose.Power(want); e != api.OK || !holds(p, at(one)) {
			t.Errorf("the Power of Unit(%d) is %v, %d", n, p, e)
		}
	}
}

// P5.9
func TestUnitEnclosesEighths(t *testing.T) {
	for n := -20; n <= 20; n++ {
		w, e := amp.Turn(num(t, "1"), n)
		if e != api.OK {
			t.Fatalf("Turn: %d", e)
		}
		x, e := enclose.FromNum(w)
		if e != api.OK {
			t.Fatalf("FromNum(%v): %d", w, e)
		}
		y, e := enclose.Unit(128 * n)
		if e != api.OK || !rectHolds(y, x) {
			t.Errorf("Unit(%d) = %v, %d does not enclose %v", 128*n, y, e, x)
		}
	}
}

// P5.6
func TestRingExamples(t *testing.T) {
	for _, c := range []struct {
		t, a, n int
		want    api.Rect
		err     api.Errno
	}{
		{500000, 1000000, 0, point(-one, 0), api.OK}, {500000, 1000000, 1024, point(-one, 0), api.OK}, {500000, 500000, 0, api.Rect{}, api.OK}, {0, 1000000, 0, point(-one, 0), api.OK}, {0, 1000000, 256, point(0, -one), api.OK},
		{0, 0, 77, api.Rect{}, api.OK}, {1000000, 0, -1, point(one, 0), api.OK}, {1000000, 1000000, 512, point(one, 0), api.OK}, {500000, 1000000, 512, point(one, 0), api.OK},
		{1000000, 1000000, 0, api.Rect{}, api.ErrZero}, {1000000, 1000000, -1024, api.Rect{}, api.ErrZero}, {999999, 1000000, 0, api.Rect{}, api.ErrZero}, {1000000, 999999, 2048, api.Rect{}, api.ErrZero},
		{-1, 0, 0, api.Rect{}, api.ErrArg}, {0, -1, 0, api.Rect{}, api.ErrArg}, {1000001, 0, 0, api.Rect{}, api.ErrArg}, {0, 1000001, 0, api.Rect{}, api.ErrArg}, {1000001, 1000000, 0, api.Rect{}, api.ErrArg}, {1000000, 1000001, 0, api.Rect{}, api.ErrArg},
		{math.MinInt, 0, 0, api.Rect{}, api.ErrArg}, {math.MaxInt, 0, 0, api.Rect{}, api.ErrArg}, {0, math.MinInt, 0, api.Rect{}, api.ErrArg}, {0, math.MaxInt, 0, api.Rect{}, api.ErrArg}, {1000000, 1000000, math.MinInt, api.Rect{}, api.ErrZero},
	} {
		got, e := enclose.Ring(c.t, c.a, c.n)
		expect(t, call("Ring", c.t, c.a, c.n), got, e, c.want, c.err)
	}
}

// P5.6
func TestRing(t *testing.T) {
	r := random(21)
	millionths := func() int { // many of them are near to 0 or 1
		n := r.Intn(1 + 1000000>>r.Intn(20))
		if r.Intn(2) == 0 {
			return 1000000 - n
		}
		return n
	}
	zeros := 0
	for range 8000 {
		a, b, n := millionths(), millionths(), r.Intn(3000)-1500
		if r.Intn(4) == 0 {
			n = 1024*r.Intn(5) - 2048
		}
		want, err := readRing(a, b, n)
		got, e := enclose.Ring(a, b, n)
		expect(t, call("Ring", a, b, n), got, e, want, err)
		if e != api.OK {
			zeros++
			continue
		}
		x, u := complex(float64(a)/1e6, 0), complex(float64(b)/1e6, 0)*turned(n)
		d := 1 - x*u
		if z := (x - u) / d; !near(got, z, 1e-14/math.Pow(cmplx.Abs(d), 2)) {
			t.Errorf("Ring(%d, %d, %d) = %v does not enclose %v", a, b, n, got, z)
		}
	}
	if zeros < 30 || zeros > 4000 {
		t.Errorf("%d calls with an error", zeros)
	}
}

// P5.10
func TestRingsWithoutLight(t *testing.T) {
	for c := 0; c <= 1000000; c += 33331 {
		part, e := enclose.Part(c, 1000000)
		if e != api.OK {
			t.Fatalf("Part(%d, 1000000): %d", c, e)
		}
		for n := -5; n < 1030; n += 3 {
			got, e := enclose.Ring(c, 0, n)
			expect(t, call("Ring", c, 0, n), got, e, axis(part), api.OK)
		}
	}
}

// P5.10
func TestRingsWithoutErrZero(t *testing.T) {
	for _, low := range []int{0, 1, 123456, 500000, 899999, 900000} {
		for _, any := range []int{0, 1, 600000, 900000, 900001, 999999, 1000000} {
			for n := 0; n < 1024; n += 1 + n%7 {
				for _, pair := range [][2]int{{low, any}, {any, low}} {
					if x, e := enclose.Ring(pair[0], pair[1], n); e != api.OK || x.Re.Hi-x.Re.Lo > 1<<20 {
						t.Errorf("Ring(%d, %d, %d) = %v, %d", pair[0], pair[1], n, x, e)
					}
				}
			}
		}
	}
}
