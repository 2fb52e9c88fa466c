package enclose_test

import (
	"testing"

	"photonmesh/amp"
	"photonmesh/api"
	"photonmesh/enclose"
)

// P5.8
func TestWiderRectangles(t *testing.T) {
	r := random(41)
	count := map[string]int{}
	for range 20000 {
		bits := 28 + r.Intn(10)
		x, y := anyRect(r, bits), anyRect(r, bits)
		if r.Intn(2) == 0 { // a divisor that is far enough from 0
			y.Im = span(-2*one-r.Intn(one), -one/2-r.Intn(one))
		}
		a, b := rectWithin(r, x), rectWithin(r, y)
		for name, f := range binary {
			narrow, e := f(a, b)
			wide, e2 := f(x, y)
			if e != api.OK || e2 != api.OK {
				continue
			}
			count[name]++
			if is, e := enclose.Inside(narrow, wide); !is || e != api.OK {
				t.Errorf("%s = %v is not inside of %s = %v", call(name, a, b), narrow, call(name, x, y), wide)
			}
		}
		narrow, e := enclose.Power(a)
		wide, e2 := enclose.Power(x)
		if e == api.OK && e2 == api.OK && !holds(wide, narrow) {
			t.Errorf("Power(%v) = %v, Power(%v) = %v", a, narrow, x, wide)
		}
		narrow, e = enclose.Root(a.Re)
		wide, e2 = enclose.Root(x.Re)
		if e == api.OK && e2 == api.OK && !holds(wide, narrow) {
			t.Errorf("Root(%v) = %v, Root(%v) = %v", a.Re, narrow, x.Re, wide)
		}
		if less, _ := enclose.Width(a); less < 0 {
			t.Errorf("Width(%v) = %d", a, less)
		} else if more, _ := enclose.Width(x); less > more {
			t.Errorf("Width(%v) = %d, Width(%v) = %d", a, less, x, more)
		}
	}
	for name := range binary {
		if count[name] < 1000 {
			t.Errorf("%s: only %d calls without an error", name, count[name])
		}
	}
}

// P5.8
func TestWiderTwoPorts(t *testing.T) {
	r := random(42)
	count := 0
	for range 5000 {
		p, q := anyPort(r, 32), anyPort(r, 32)
		p.S[1][1], q.S[0][0] = anyRect(r, 29), anyRect(r, 29)
		a, b := portWithin(r, p), portWithin(r, q)
		narrow, e := enclose.Star(a, b)
		wide, e2 := enclose.Star(p, q)
		if e == api.OK && e2 == api.OK {
			count++
			for part := range 4 {
				if !rectHolds(wide.S[part/2][part%2], narrow.S[part/2][part%2]) {
					t.Errorf("%s = %v is not inside of %s = %v", call("Star", a, b), narrow, call("Star", p, q), wide)
				}
			}
		}
		less, less2, e := enclose.Passes(a)
		more, more2, e2 := enclose.Passes(p)
		if e == api.OK && e2 == api.OK && !(holds(more, less) && holds(more2, less2)) {
			t.Errorf("Passes(%v) = %v, %v, Passes(%v) = %v, %v", a, less, less2, p, more, more2)
		}
	}
	if count < 500 {
		t.Errorf("only %d two-ports without an error", count)
	}
}

// P5.8
func TestEnclosuresOfNumbers(t *testing.T) {
	r := random(43)
	exact := map[string]func(x, y api.Num) (api.Num, api.Errno){"Add": amp.Add, "Sub": amp.Sub, "Mul": amp.Mul}
	count := 0
	for range 20000 {
		x, y := anyNum(r, 1+r.Intn(300)), anyNum(r, 1+r.Intn(300))
		a, e := enclose.FromNum(x)
		b, e2 := enclose.FromNum(y)
		if e != api.OK || e2 != api.OK {
			continue
		}
		for name, f := range exact {
			z, e := f(x, y)
			if e != api.OK {
				continue
			}
			narrow, e := enclose.FromNum(z)
			wide, e2 := binary[name](a, b)
			if e != api.OK || e2 != api.OK {
				continue
			}
			count++
			if is, e := enclose.Inside(narrow, wide); !is || e != api.OK {
				t.Errorf("%s of %v and %v: %v is not inside of %v", name, x, y, narrow, wide)
			}
		}
		p, e := amp.Power(x)
		if e != api.OK {
			continue
		}
		narrow, e := enclose.FromNum(p)
		wide, e2 := enclose.Power(a)
		if e == api.OK && e2 == api.OK && !holds(wide, narrow.Re) {
			t.Errorf("the Power of %v is %v, not in %v", x, narrow, wide)
		}
	}
	if count < 10000 {
		t.Errorf("only %d calls without an error", count)
	}
}

// P5.2: enclosures hold what is enclosed, not only at their bounds
func TestEnclosuresHoldTheirPoints(t *testing.T) {
	r := random(44)
	for range 20000 {
		x, y := anyRect(r, 33), anyRect(r, 33)
		p := point(within(r, x.Re).Lo, within(r, x.Im).Hi)
		q := point(within(r, y.Re).Hi, within(r, y.Im).Lo)
		for name, f := range binary {
			wide, e := f(x, y)
			if e != api.OK {
				continue
			}
			narrow, e := f(p, q)
			if e != api.OK || !rectHolds(wide, narrow) {
				t.Errorf("%s = %v, %d is not inside of %s = %v", call(name, p, q), narrow, e, call(name, x, y), wide)
			}
		}
	}
}
