package enclose_test

import (
	"testing"

	"photonmesh/api"
	"photonmesh/enclose"
)

var (
	nothing = api.Rect{}
	unit    = point(one, 0)
	through = port(nothing, unit, unit, nothing)
)

// P5.1
func TestInvalidTwoPortsComeFirst(t *testing.T) {
	large := point(top, top)
	for _, x := range invalidRects() {
		for part := range 4 {
			// All others would end with an error, too.
			p := port(large, large, large, large)
			p.S[part/2][part%2] = x
			for _, q := range []api.Port{through, p, port(unit, unit, unit, unit)} {
				got, e := enclose.Star(p, q)
				expect(t, call("Star", p, q), got, e, api.Port{}, api.ErrSpan)
				got, e = enclose.Star(q, p)
				expect(t, call("Star", q, p), got, e, api.Port{}, api.ErrSpan)
			}
			got, e := enclose.Mirror(p)
			expect(t, call("Mirror", p), got, e, api.Port{}, api.ErrSpan)
			a, b, e := enclose.Passes(p)
			expect(t, call("Passes", p), [2]api.Span{a, b}, e, [2]api.Span{}, api.ErrSpan)
		}
	}
}

// P5.7
func TestStarExamples(t *testing.T) {
	half, minus, large := point(one/2, 0), point(-one, 0), point(top, 0)
	for _, c := range []struct {
		what       string
		p, q, want api.Port
		err        api.Errno
	}{
		{"nothing is reflected", port(nothing, half, point(0, one), nothing), port(nothing, half, minus, nothing), port(nothing, point(one/4, 0), point(0, -one), nothing), api.OK},
		{"d is 1 - 1/4", port(half, unit, unit, half), port(half, unit, unit, half), port(axis(span(1252698794, 1252698795)), axis(span(1431655765, 1431655766)), axis(span(1431655765, 1431655766)), axis(span(1252698794, 1252698795))), api.OK},
		{"all parts differ", port(point(one, 0), point(2*one, 0), point(3*one, 0), point(4*one, 0)), port(point(one/2, 0), point(6*one, 0), point(7*one, 0), point(8*one, 0)), port(point(-2*one, 0), point(-12*one, 0), point(-21*one, 0), point(-160*one, 0)), api.OK},
		{"d is 0", port(nothing, unit, unit, unit), port(unit, unit, unit, nothing), api.Port{}, api.ErrZero},
		{"d may be 0", port(nothing, unit, unit, axis(span(0, one))), port(unit, unit, unit, nothing), api.Port{}, api.ErrZero},
		{"d is 0, and the first product is out of range", port(nothing, large, unit, half), port(point(2*one, 0), unit, unit, nothing), api.Port{}, api.ErrLimit},
		{"d is 0, and the second product is out of range", port(nothing, large, point(2*one, 0), unit), port(unit, unit, unit, nothing), api.Port{}, api.ErrLimit},
		{"d is 0, and S01 is out of range", port(nothing, large, unit, unit), port(unit, point(2*one, 0), unit, nothing), api.Port{}, api.ErrZero},
		{"d is out of range", port(nothing, nothing, nothing, large), port(point(-one, 0), nothing, nothing, nothing), api.Port{}, api.ErrLimit},
		{"the product in d is out of range", port(nothing, nothing, nothing, large), port(point(0, 2*one), nothing, nothing, nothing), api.Port{}, api.ErrLimit},
		{"the power of d is out of range", port(nothing, nothing, nothing, point(33*one, 0)), port(unit, nothing, nothing, nothing), port(nothing, nothing, nothing, nothing), api.OK},
		{"the power of d is out of range", port(nothing, nothing, nothing, point(33*one+1, 0)), port(unit, nothing, nothing, nothing), api.Port{}, api.ErrLimit},
		{"S00 is out of range", port(large, unit, unit, nothing), port(point(1, 0), unit, unit, nothing), api.Port{}, api.ErrLimit},
		{"S01 is out of range", port(nothing, large, unit, nothing), port(nothing, point(one+1, 0), unit, nothing), api.Port{}, api.ErrLimit},
		{"S10 is out of range", port(nothing, unit, large, nothing), port(nothing, unit, point(one+1, 0), nothing), api.Port{}, api.ErrLimit},
		{"S11 is out of range", port(nothing, unit, unit, point(1, 0)), port(nothing, unit, unit, large), api.Port{}, api.ErrLimit},
		{"S11 is at the limit", port(nothing, unit, unit, point(1, 0)), port(nothing, unit, unit, point(top-1, 0)), port(nothing, unit, unit, large), api.OK},
	} {
		got, e := enclose.Star(c.p, c.q)
		expect(t, "Star where "+c.what, got, e, c.want, c.err)
	}
}

// P5.7
func TestStar(t *testing.T) {
	r := random(31)
	count := map[api.Errno]int{}
	for range 6000 {
		bits := 30 + r.Intn(12)
		p, q := anyPort(r, bits), anyPort(r, bits)
		switch r.Intn(4) {
		case 0: // little is reflected
			p.S[1][1], q.S[0][0] = anyRect(r, 29), anyRect(r, 29)
		case 1: // d may be 0
			s := anySpan(r, 15)
			p.S[1][1], q.S[0][0] = api.Rect{Re: span(one+s.Lo, one+s.Hi), Im: anySpan(r, 15)}, unit
		}
		want, err := readStar(p, q)
		got, e := enclose.Star(p, q)
		expect(t, call("Star", p, q), got, e, want, err)
		count[e]++
	}
	if count[api.OK] < 500 || count[api.ErrZero] < 500 || count[api.ErrLimit] < 500 {
		t.Errorf("only so many calls with each error: %v", count)
	}
}

// P5.7
func TestMirror(t *testing.T) {
	p := port(point(1, 2), point(3, 4), point(5, 6), point(7, 8))
	got, e := enclose.Mirror(p)
	expect(t, call("Mirror", p), got, e, port(point(7, 8), point(5, 6), point(3, 4), point(1, 2)), api.OK)
}

// P5.7
func TestPasses(t *testing.T) {
	most := point(1<<35, 0)
	for _, c := range []struct {
		p    api.Port
		a, b api.Span
		err  api.Errno
	}{
		{through, at(one), at(one), api.OK}, {api.Port{}, at(0), at(0), api.OK},
		{port(point(one, 0), point(0, 2*one), point(3*one, 4*one), point(5*one, -one)), at(26 * one), at(30 * one), api.OK},
		{port(axis(span(-one, 2*one)), unit, unit, point(1, 0)), span(one, 5*one), span(one, one+1), api.OK},
		{port(most, nothing, nothing, most), at(top), at(top), api.OK}, {port(nothing, most, most, nothing), at(top), at(top), api.OK}, {port(most, most, nothing, nothing), at(top), at(top), api.OK},
		{port(most, nothing, point(0, 1), nothing), at(0), at(0), api.ErrLimit}, {port(nothing, point(1, 0), nothing, most), at(0), at(0), api.ErrLimit}, {port(nothing, nothing, nothing, point(1<<35, 1)), at(0), at(0), api.ErrLimit},
	} {
		a, b, e := enclose.Passes(c.p)
		expect(t, call("Passes", c.p), [2]api.Span{a, b}, e, [2]api.Span{c.a, c.b}, c.err)
	}
	r := random(32)
	for range 20000 {
		p := anyPort(r, 36)
		want, err := read(func() (s [2]api.Span) {
			for in := range 2 {
				s[in] = widenRect(p.S[0][in]).power().plus(widenRect(p.S[1][in]).power()).narrow()
			}
			return s
		})
		a, b, e := enclose.Passes(p)
		expect(t, call("Passes", p), [2]api.Span{a, b}, e, want, err)
	}
}

// P5.11
func TestMirrorsOfTwoPorts(t *testing.T) {
	r := random(33)
	count := 0
	mirror := func(p api.Port) api.Port {
		m, e := enclose.Mirror(p)
		if e != api.OK {
			t.Fatalf("Mirror(%v): %d", p, e)
		}
		return m
	}
	for range 5000 {
		p, q := anyPort(r, 32), anyPort(r, 32)
		p.S[1][1], q.S[0][0] = anyRect(r, 29), anyRect(r, 29)
		if twice := mirror(mirror(p)); twice != p {
			t.Errorf("Mirror of Mirror of %v is %v", p, twice)
		}
		s, e := enclose.Star(p, q)
		back, e2 := enclose.Star(mirror(q), mirror(p))
		if e != api.OK || e2 != api.OK {
			continue
		}
		count++
		s = mirror(s)
		for part := range 4 {
			if _, is, e := enclose.Meet(s.S[part/2][part%2], back.S[part/2][part%2]); !is || e != api.OK {
				t.Errorf("Star(%v, %v): %v and %v do not meet", p, q, s, back)
			}
		}
	}
	if count < 500 {
		t.Errorf("only %d two-ports without an error", count)
	}
}

// P5.11
func TestJoiningWhatLetsAllThrough(t *testing.T) {
	r := random(34)
	for range 5000 {
		p := anyPort(r, 41)
		for _, pair := range [][2]api.Port{{p, through}, {through, p}} {
			s, e := enclose.Star(pair[0], pair[1])
			if e != api.OK {
				t.Errorf("Star(%v): %d", pair, e)
			}
			for part := range 4 {
				if x := p.S[part/2][part%2]; !rectHolds(s.S[part/2][part%2], x) {
					t.Errorf("Star(%v) = %v does not enclose it", pair, s)
				}
			}
		}
	}
}
