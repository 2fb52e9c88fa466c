package enclose_test

import (
	"math"
	"math/big"
	"testing"

	"photonmesh/amp"
	"photonmesh/api"
	"photonmesh/enclose"
)

// invalidRects returns rectangles that are not valid, in each of their parts.
func invalidRects() []api.Rect {
	var l []api.Rect
	for _, s := range invalidSpans {
		l = append(l, api.Rect{Re: s}, api.Rect{Im: s}, api.Rect{Re: at(one), Im: s}, api.Rect{Re: s, Im: s})
	}
	return l
}

// P5.1: ErrSpan comes in front of ErrLimit and ErrZero
func TestInvalidRectanglesComeFirst(t *testing.T) {
	others := []api.Rect{{}, point(one, one), point(top, -top), {Re: span(-top, top), Im: span(-top, top)}}
	for _, x := range invalidRects() {
		for _, y := range append(others, x) {
			for name, f := range binary {
				got, e := f(x, y)
				expect(t, call(name, x, y), got, e, api.Rect{}, api.ErrSpan)
				got, e = f(y, x)
				expect(t, call(name, y, x), got, e, api.Rect{}, api.ErrSpan)
			}
			for _, pair := range [][2]api.Rect{{x, y}, {y, x}} {
				is, e := enclose.Inside(pair[0], pair[1])
				expect(t, call("Inside", pair), is, e, false, api.ErrSpan)
				both, is, e := enclose.Meet(pair[0], pair[1])
				expect(t, call("Meet", pair), both, e, api.Rect{}, api.ErrSpan)
				if is {
					t.Errorf("Meet(%v) is true", pair)
				}
			}
		}
		s, e := enclose.Power(x)
		expect(t, call("Power", x), s, e, api.Span{}, api.ErrSpan)
		n, e := enclose.Width(x)
		expect(t, call("Width", x), n, e, 0, api.ErrSpan)
	}
}

// P5.1: ErrSpan comes in front of ErrArg
func TestInvalidSpansComeFirst(t *testing.T) {
	for _, s := range invalidSpans {
		got, e := enclose.Root(s)
		expect(t, call("Root", s), got, e, api.Span{}, api.ErrSpan)
	}
}

// P5.2
func TestValid(t *testing.T) {
	for _, s := range invalidSpans {
		if enclose.Valid(s) {
			t.Errorf("Valid(%v)", s)
		}
	}
	for _, s := range append(someSpans(1, 1000), span(-top, top)) {
		if !enclose.Valid(s) {
			t.Errorf("not Valid(%v)", s)
		}
	}
}

// P5.2
func TestExactArithmetic(t *testing.T) {
	for _, c := range []struct {
		name       string
		x, y, want api.Rect
		err        api.Errno
	}{
		{"Add", api.Rect{Re: span(1, 2), Im: span(-3, 4)}, api.Rect{Re: span(10, 20), Im: span(-5, -4)}, api.Rect{Re: span(11, 22), Im: span(-8, 0)}, api.OK},
		{"Sub", api.Rect{Re: span(1, 2), Im: span(-3, 4)}, api.Rect{Re: span(10, 20), Im: span(-5, -4)}, api.Rect{Re: span(-19, -8), Im: span(1, 9)}, api.OK},
		{"Mul", point(one, 2*one), point(3*one, 4*one), point(-5*one, 10*one), api.OK},
		{"Mul", api.Rect{Re: span(one, 2*one), Im: span(0, one)}, api.Rect{Re: span(-one, one), Im: at(one)}, api.Rect{Re: span(-3*one, 2*one), Im: span(0, 3*one)}, api.OK},
		{"Mul", axis(span(1, 3)), axis(span(1, 5)), axis(span(0, 1)), api.OK},
		{"Mul", axis(span(-3, 1)), axis(at(1)), axis(span(-1, 1)), api.OK},
		{"Div", point(-5*one, 10*one), point(3*one, 4*one), point(one, 2*one), api.OK},
		{"Div", point(one, 0), point(0, one), point(0, -one), api.OK},
		{"Div", point(one, 0), point(3*one, 0), api.Rect{Re: span(357913941, 357913942)}, api.OK},
		{"Div", point(-one, 0), point(3*one, 0), api.Rect{Re: span(-357913942, -357913941)}, api.OK},
		{"Div", point(one, 0), axis(span(one, 2*one)), axis(span(one/4, 2*one)), api.OK},
		{"Div", point(one, 0), axis(span(-2*one, -one)), axis(span(-2*one, -one/4)), api.OK},
		{"Div", point(one, 0), point(1<<15, 0), api.Rect{}, api.ErrLimit},
		{"Div", point(1<<10, 0), point(1<<15, 0), axis(span(0, one)), api.OK},
		{"Div", point(one, 0), point(1<<15-1, 0), api.Rect{}, api.ErrZero},
		{"Div", point(one, 0), point(1<<15-1, 1<<15-1), api.Rect{}, api.ErrZero},
		{"Div", point(one, 0), axis(span(-one, one)), api.Rect{}, api.ErrZero},
		{"Div", api.Rect{}, api.Rect{}, api.Rect{}, api.ErrZero},
		{"Div", point(one, 0), api.Rect{Re: span(-one, one), Im: span(-one, one)}, api.Rect{}, api.ErrZero},
		{"Div", point(4*one, 0), api.Rect{Re: span(-one, one), Im: span(one, 2*one)}, api.Rect{Re: span(-4*one, 4*one), Im: span(-8*one, -4*one/5)}, api.OK},
	} {
		got, e := binary[c.name](c.x, c.y)
		expect(t, call(c.name, c.x, c.y), got, e, c.want, c.err)
	}
}

// P5.2: at the limits
func TestLimits(t *testing.T) {
	for _, c := range []struct {
		name string
		x, y api.Rect
		err  api.Errno
	}{
		{"Add", point(top-1, 0), point(1, 0), api.OK}, {"Add", point(top, 0), point(1, 0), api.ErrLimit}, {"Add", point(0, -top), point(0, -1), api.ErrLimit},
		{"Add", axis(span(0, top)), axis(span(0, 1)), api.ErrLimit}, {"Add", axis(span(-top, 0)), axis(span(-1, 0)), api.ErrLimit}, {"Add", point(top, -top), point(-top, top), api.OK},
		{"Sub", point(-top, 0), point(0, top), api.OK}, {"Sub", point(-top, 0), point(1, 0), api.ErrLimit}, {"Sub", axis(span(0, 1)), axis(span(-top, 0)), api.ErrLimit},
		{"Mul", point(1<<35, 0), point(1<<35, 0), api.OK}, {"Mul", point(1<<35, 0), point(1<<35+1, 0), api.ErrLimit}, {"Mul", point(-1<<35, 0), point(1<<35, 0), api.OK},
		{"Mul", point(-1<<35, 0), point(1<<35+1, 0), api.ErrLimit}, {"Mul", point(top, top), point(top, top), api.ErrLimit}, {"Mul", axis(at(top)), axis(at(one)), api.OK},
		// The limit is reached by a bound that is rounded up.
		{"Mul", axis(at(top - 1023)), axis(at(one + 1)), api.ErrLimit}, {"Mul", axis(at(1023 - top)), axis(at(one + 1)), api.ErrLimit}, {"Mul", axis(at(top - 1024)), axis(at(one + 1)), api.OK}, {"Mul", axis(at(1<<35 - 1)), axis(at(1<<35 + 1)), api.OK},
		// A product is out of range, although the difference would not be.
		{"Mul", point(1<<36, 1<<36), point(1<<36, 1<<36), api.ErrLimit},
		// Both products are in range, but not their sum.
		{"Mul", point(1<<35, 1<<35), point(1<<35, 1<<35), api.ErrLimit}, {"Mul", point(1<<35, 1<<35), point(1<<34, 1<<34), api.OK},
		// The power of the divisor comes first, then ErrZero, then the product.
		{"Div", api.Rect{}, axis(span(-top, top)), api.ErrLimit}, {"Div", api.Rect{}, point(1<<35+1, 0), api.ErrLimit}, {"Div", api.Rect{}, point(1<<35, 0), api.OK},
		{"Div", api.Rect{}, point(1<<35, 1<<15), api.ErrLimit}, {"Div", api.Rect{}, point(1<<35, 1), api.ErrLimit}, {"Div", point(top, top), axis(span(0, 1<<35)), api.ErrZero},
		{"Div", point(top, 0), point(one+1, 0), api.ErrLimit}, {"Div", point(top, 0), point(one, 0), api.OK}, {"Div", point(top, 0), point(one-1, 0), api.ErrLimit},
		{"Div", point(-top, 0), point(1<<15, 0), api.ErrLimit}, {"Div", point(top, top), point(1<<15, 0), api.ErrLimit},
	} {
		want, err := readBinary(c.name, c.x, c.y)
		got, e := binary[c.name](c.x, c.y)
		expect(t, call(c.name, c.x, c.y), got, e, want, c.err)
		if err != c.err {
			t.Errorf("%s reads as %d", call(c.name, c.x, c.y), err)
		}
	}
}

// P5.2
func TestArithmeticOfParts(t *testing.T) {
	l := someSpans(2, 20)
	for name, f := range binary {
		for _, x := range l {
			for _, y := range l {
				for _, pair := range [][2]api.Rect{{axis(x), axis(y)}, {{Im: x}, {Im: y}}, {axis(x), {Im: y}}} {
					want, err := readBinary(name, pair[0], pair[1])
					got, e := f(pair[0], pair[1])
					expect(t, call(name, pair), got, e, want, err)
				}
			}
		}
	}
}

// P5.2
func TestArithmetic(t *testing.T) {
	r := random(3)
	fine := map[string]int{}
	for range 20000 {
		bits := 30 + r.Intn(12)
		x, y := anyRect(r, bits), anyRect(r, bits)
		if r.Intn(2) == 0 { // a divisor that is far enough from 0
			y.Re = span(one/2+r.Intn(one), 4*one+r.Intn(one))
		}
		for name, f := range binary {
			want, err := readBinary(name, x, y)
			got, e := f(x, y)
			expect(t, call(name, x, y), got, e, want, err)
			if e == api.OK {
				fine[name]++
			}
		}
	}
	for name := range binary {
		if fine[name] < 1000 {
			t.Errorf("%s: only %d calls without an error", name, fine[name])
		}
	}
}

// P5.2
func TestPower(t *testing.T) {
	for _, c := range []struct {
		x    api.Rect
		want api.Span
		err  api.Errno
	}{
		{api.Rect{}, at(0), api.OK}, {point(3*one, 4*one), at(25 * one), api.OK}, {point(-3*one, -4*one), at(25 * one), api.OK}, {point(1, 0), span(0, 1), api.OK},
		{axis(span(-one, 2*one)), span(0, 4*one), api.OK}, {axis(span(-2*one, one)), span(0, 4*one), api.OK}, {axis(span(-2*one, -one)), span(one, 4*one), api.OK},
		{axis(span(0, one)), span(0, one), api.OK}, {axis(span(-one, 0)), span(0, one), api.OK}, {axis(span(-one, -1)), span(0, one), api.OK}, {point(1, 1), span(0, 2), api.OK},
		{api.Rect{Re: span(one, 2*one), Im: span(-one, one)}, span(one, 5*one), api.OK}, {point(1<<35, 0), at(top), api.OK}, {point(0, -1<<35), at(top), api.OK},
		{point(1<<35, 1), api.Span{}, api.ErrLimit}, {point(1<<35+1, 0), api.Span{}, api.ErrLimit}, {axis(span(-1<<35-1, 0)), api.Span{}, api.ErrLimit}, {point(top, top), api.Span{}, api.ErrLimit},
	} {
		got, e := enclose.Power(c.x)
		expect(t, call("Power", c.x), got, e, c.want, c.err)
	}
	l := someSpans(4, 100)
	for _, re := range l {
		for _, im := range l {
			x := api.Rect{Re: re, Im: im}
			want, err := read(func() api.Span { return widenRect(x).power().narrow() })
			got, e := enclose.Power(x)
			expect(t, call("Power", x), got, e, want, err)
		}
	}
}

// P5.2
func TestRoot(t *testing.T) {
	for _, c := range []struct {
		s, want api.Span
		err     api.Errno
	}{
		{at(0), at(0), api.OK}, {at(one), at(one), api.OK}, {at(4 * one), at(2 * one), api.OK}, {at(top), at(1 << 35), api.OK}, {at(1), at(1 << 15), api.OK},
		{span(0, top), span(0, 1<<35), api.OK}, {at(2), span(46340, 46341), api.OK}, {at(2 * one), span(1518500249, 1518500250), api.OK}, {span(1, 2), span(1<<15, 46341), api.OK},
		{at(top - 1), span(1<<35-1, 1<<35), api.OK}, {at(-1), at(0), api.ErrArg}, {span(-1, one), at(0), api.ErrArg}, {span(-top, top), at(0), api.ErrArg}, {at(-top), at(0), api.ErrArg},
	} {
		got, e := enclose.Root(c.s)
		expect(t, call("Root", c.s), got, e, c.want, c.err)
	}
	for _, s := range someSpans(5, 20000) {
		if s.Lo < 0 {
			continue
		}
		got, e := enclose.Root(s)
		expect(t, call("Root", s), got, e, widen(s).root().narrow(), api.OK)
	}
}

// P5.3
func TestPart(t *testing.T) {
	const most = 1000000000
	for _, c := range []struct {
		n, d int
		want api.Span
		err  api.Errno
	}{
		{1, 3, span(357913941, 357913942), api.OK}, {-1, 3, span(-357913942, -357913941), api.OK}, {0, 1, at(0), api.OK}, {0, most, at(0), api.OK}, {1, 2, at(one / 2), api.OK},
		{-7, 1, at(-7 * one), api.OK}, {1024, 1, at(top), api.OK}, {-1024, 1, at(-top), api.OK}, {1025, 1, at(0), api.ErrLimit}, {-1025, 1, at(0), api.ErrLimit},
		{1, most, span(1, 2), api.OK}, {-1, most, span(-2, -1), api.OK}, {most, most, at(one), api.OK}, {most, 1, at(0), api.ErrLimit}, {-most, 1, at(0), api.ErrLimit},
		{most, 976562, at(0), api.ErrLimit}, {most, 976563, span(1099511064826, 1099511064827), api.OK}, {-most, 976562, at(0), api.ErrLimit},
		{1, 0, at(0), api.ErrArg}, {1, -1, at(0), api.ErrArg}, {1, most + 1, at(0), api.ErrArg}, {most + 1, most, at(0), api.ErrArg}, {-most - 1, most, at(0), api.ErrArg},
		{most + 1, 1, at(0), api.ErrArg}, {0, math.MinInt, at(0), api.ErrArg}, {0, math.MaxInt, at(0), api.ErrArg}, {math.MinInt, 1, at(0), api.ErrArg}, {math.MaxInt, 1, at(0), api.ErrArg},
	} {
		got, e := enclose.Part(c.n, c.d)
		expect(t, call("Part", c.n, c.d), got, e, c.want, c.err)
	}
	r := random(6)
	for range 20000 {
		n, d := anyBound(r, 30), 1+r.Intn(1<<r.Intn(30))
		want, err := read(func() api.Span {
			q := new(big.Rat).Mul(ratio(n, d), ratio(one, 1))
			return ranged(down(q), up(q)).narrow()
		})
		got, e := enclose.Part(n, d)
		expect(t, call("Part", n, d), got, e, want, err)
	}
}

// P5.3
func TestFromNum(t *testing.T) {
	for _, c := range []struct {
		text string
		want api.Rect
		err  api.Errno
	}{
		{"0", api.Rect{}, api.OK}, {"1", point(one, 0), api.OK}, {"-w2", point(0, -one), api.OK}, {"1/2", point(one/2, 0), api.OK},
		{"w", api.Rect{Re: span(759250124, 759250125), Im: span(759250124, 759250125)}, api.OK}, {"w3", api.Rect{Re: span(-759250125, -759250124), Im: span(759250124, 759250125)}, api.OK},
		{"1024", point(top, 0), api.OK}, {"1025", api.Rect{}, api.ErrLimit}, {"-1024w2", point(0, -top), api.OK}, {"-1025w2", api.Rect{}, api.ErrLimit}, {"1024+1024w2", point(top, top), api.OK},
		{"1024+w", api.Rect{}, api.ErrLimit}, {"1000000000", api.Rect{}, api.ErrLimit}, {"-1000000000-1000000000w-1000000000w2-1000000000w3", api.Rect{}, api.ErrLimit},
		{"1/40", point(1024, 0), api.OK}, {"-w2/39", api.Rect{Im: span(-1449, -1448)}, api.OK}, {"1+1448w", api.Rect{}, api.ErrLimit}, {"-1448w", api.Rect{Re: span(-1099394180992, -1099394180991), Im: span(-1099394180992, -1099394180991)}, api.OK},
	} {
		got, e := enclose.FromNum(num(t, c.text))
		expect(t, "FromNum "+c.text, got, e, c.want, c.err)
	}
	for _, z := range []api.Num{{K: -1}, {K: 1}, {A: [4]int{1}, K: 41}, {A: [4]int{1, 0, 1}, K: 1}, {A: [4]int{0, 1000000001}}, {A: [4]int{0, 0, 0, math.MinInt}}, {A: [4]int{math.MaxInt}, K: math.MaxInt}} {
		got, e := enclose.FromNum(z)
		expect(t, call("FromNum", z), got, e, api.Rect{}, api.ErrNum)
	}
	r := random(7)
	for range 20000 {
		z := anyNum(r, 1<<r.Intn(30))
		re, im, e := amp.Bounds(z, 30)
		if e != api.OK {
			t.Fatalf("Bounds(%v): %d", z, e)
		}
		want, err := read(func() api.Rect {
			return wideRect{ranged(ratio(re.Lo, 1), ratio(re.Hi, 1)), ranged(ratio(im.Lo, 1), ratio(im.Hi, 1))}.narrow()
		})
		got, e := enclose.FromNum(z)
		expect(t, call("FromNum", z), got, e, want, err)
	}
}

// P5.5
func TestInsideMeetWidth(t *testing.T) {
	x := api.Rect{Re: span(-5, 5), Im: span(0, 10)}
	for _, c := range []struct {
		y, both          api.Rect
		inside, has, any bool // y is inside of x, x inside of y, there is something in both
	}{
		{x, x, true, true, true},
		{point(0, 0), point(0, 0), true, false, true}, {point(-5, 10), point(-5, 10), true, false, true}, {point(-6, 10), api.Rect{}, false, false, false}, {point(5, 11), api.Rect{}, false, false, false},
		{api.Rect{Re: span(-6, 5), Im: span(0, 10)}, x, false, true, true}, {api.Rect{Re: span(-5, 6), Im: span(0, 10)}, x, false, true, true},
		{api.Rect{Re: span(-5, 5), Im: span(-1, 10)}, x, false, true, true}, {api.Rect{Re: span(-5, 5), Im: span(0, 11)}, x, false, true, true},
		{api.Rect{Re: span(-4, 5), Im: span(0, 10)}, api.Rect{Re: span(-4, 5), Im: span(0, 10)}, true, false, true}, {api.Rect{Re: span(-5, 5), Im: span(0, 9)}, api.Rect{Re: span(-5, 5), Im: span(0, 9)}, true, false, true},
		{api.Rect{Re: span(5, 9), Im: span(-3, 0)}, point(5, 0), false, false, true}, {api.Rect{Re: span(6, 9), Im: span(0, 10)}, api.Rect{}, false, false, false}, {api.Rect{Re: span(-5, 5), Im: span(-9, -1)}, api.Rect{}, false, false, false},
		{api.Rect{Re: span(-1, 7), Im: span(3, 20)}, api.Rect{Re: span(-1, 5), Im: span(3, 10)}, false, false, true}, {api.Rect{Re: span(-top, top), Im: span(-top, top)}, x, false, true, true},
		{api.Rect{Re: span(-6, 6), Im: span(1, 9)}, api.Rect{Re: span(-5, 5), Im: span(1, 9)}, false, false, true}, {point(top, -top), api.Rect{}, false, false, false},
	} {
		is, e := enclose.Inside(c.y, x)
		expect(t, call("Inside", c.y, x), is, e, c.inside, api.OK)
		is, e = enclose.Inside(x, c.y)
		expect(t, call("Inside", x, c.y), is, e, c.has, api.OK)
		for _, pair := range [][2]api.Rect{{x, c.y}, {c.y, x}} {
			both, is, e := enclose.Meet(pair[0], pair[1])
			expect(t, call("Meet", pair), both, e, c.both, api.OK)
			if is != c.any {
				t.Errorf("Meet(%v) is %v", pair, is)
			}
		}
	}
	for _, c := range []struct {
		x    api.Rect
		want int
	}{{x, 10}, {api.Rect{}, 0}, {point(top, -top), 0}, {api.Rect{Re: span(-7, 8), Im: span(0, 10)}, 15}, {api.Rect{Re: span(3, 4), Im: span(-9, -7)}, 2}, {api.Rect{Re: span(-top, top)}, 2 * top}, {api.Rect{Im: span(-top, top)}, 2 * top}} {
		n, e := enclose.Width(c.x)
		expect(t, call("Width", c.x), n, e, c.want, api.OK)
	}
}

// P5.5: all rectangles with small bounds, number by number
func TestSmallRectangles(t *testing.T) {
	var spans []api.Span
	for lo := range 5 {
		for hi := lo; hi < 5; hi++ {
			spans = append(spans, span(lo, hi))
		}
	}
	for _, a := range spans {
		for _, b := range spans {
			inside, has := true, false
			for n := range 5 {
				inA, inB := a.Lo <= n && n <= a.Hi, b.Lo <= n && n <= b.Hi
				inside = inside && (inB || !inA)
				has = has || inA && inB
			}
			for _, pair := range [][2]api.Rect{{axis(a), axis(b)}, {{Im: a}, {Im: b}}} {
				is, e := enclose.Inside(pair[0], pair[1])
				expect(t, call("Inside", pair), is, e, inside, api.OK)
				both, is, e := enclose.Meet(pair[0], pair[1])
				if is != has || e != api.OK {
					t.Errorf("Meet(%v) = %v, %d", pair, is, e)
				}
				for _, x := range pair {
					if !rectHolds(x, both) && has {
						t.Errorf("Meet(%v) = %v is not in %v", pair, both, x)
					}
				}
			}
		}
	}
}
