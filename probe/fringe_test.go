package probe_test

import (
	"fmt"
	"math"
	"math/big"
	"math/rand"
	"slices"
	"testing"

	"photonmesh/api"
	"photonmesh/probe"
)

const million = 1000000

// fringe returns a fringe.
func fringe(mean2, x, y int) api.Fringe { return api.Fringe{Mean2: mean2, X: x, Y: y} }

// extremes are numbers near to the ends of the ranges.
var extremes = []int{math.MinInt, math.MinInt + 1, -1 << 32, -2*million - 1, -2 * million, -million - 1, -million, -2, -1, 0, 1, 2, million - 1, million, million + 1, 2*million - 1, 2 * million, 2*million + 1, 1 << 32, math.MaxInt - 1, math.MaxInt}

// isFringe reports whether a fringe is valid, by the document's words.
func isFringe(f api.Fringe) bool {
	within := func(z, least, most int) bool { return least <= z && z <= most }
	if !within(f.Mean2, 0, 2*million) || !within(f.X, -million, million) || !within(f.Y, -million, million) {
		return false
	}
	square := func(z int) *big.Int { return new(big.Int).Mul(big.NewInt(int64(z)), big.NewInt(int64(z))) }
	return new(big.Int).Add(square(f.X), square(f.Y)).Cmp(square(f.Mean2)) <= 0
}

// notFringes are fringes that are not valid, for each reason why.
var notFringes = []api.Fringe{fringe(-1, 0, 0), fringe(2*million+1, 0, 0), fringe(math.MinInt, 0, 0), fringe(math.MaxInt, 0, 0), fringe(-5, 3, 4),
	fringe(0, 1, 0), fringe(0, 0, -1), fringe(5, 4, 4), fringe(4, -3, -3), fringe(7, 0, 8), fringe(million, -million, 1),
	fringe(2*million, million+1, 0), fringe(2*million, 0, million+1), fringe(2*million, -million-1, 0), fringe(2*million, 0, -million-1),
	fringe(10, math.MinInt, 0), fringe(10, 0, math.MinInt), fringe(10, math.MaxInt, 1), fringe(10, 1<<32, 1<<32), fringe(math.MinInt, math.MinInt, math.MinInt), fringe(math.MaxInt, math.MaxInt, math.MaxInt)}

// anyFringe returns a valid fringe of any size.
func anyFringe(r *rand.Rand) api.Fringe {
	most := []int{3, 30, 1000, 20000, million}[r.Intn(5)]
	for {
		f := fringe(r.Intn(2*most+1), r.Intn(2*most+1)-most, r.Intn(2*most+1)-most)
		if isFringe(f) {
			return f
		}
	}
}

// The document's first example, and P9.2: written out.
func TestFringe(t *testing.T) {
	for _, c := range []struct {
		readings [4]int
		want     api.Fringe
		err      api.Errno
	}{
		{[4]int{10, 7, 2, 5}, fringe(12, 8, 2), api.OK}, {[4]int{7, 2, 5, 10}, fringe(12, 2, -8), api.OK}, {[4]int{}, fringe(0, 0, 0), api.OK},
		{[4]int{3, 3, 3, 3}, fringe(6, 0, 0), api.OK}, {[4]int{0, 1, 2, 1}, fringe(2, -2, 0), api.OK}, {[4]int{5, 9, 5, 1}, fringe(10, 0, 8), api.OK},
		{[4]int{million, million / 2, 0, million / 2}, fringe(million, million, 0), api.OK}, {[4]int{million / 2, 0, million / 2, million}, fringe(million, 0, -million), api.OK},
		{[4]int{million, million, million, million}, fringe(2*million, 0, 0), api.OK}, {[4]int{9, 8, 1, 2}, fringe(10, 8, 6), api.OK},
		// The third together with the first is not the fourth together with the second.
		{[4]int{10, 7, 2, 4}, fringe(0, 0, 0), api.ErrTests}, {[4]int{10, 7, 3, 5}, fringe(0, 0, 0), api.ErrTests}, {[4]int{0, 0, 0, 1}, fringe(0, 0, 0), api.ErrTests},
		// The vector is longer than Mean2.
		{[4]int{10, 10, 0, 0}, fringe(0, 0, 0), api.ErrTests}, {[4]int{0, 1, 1, 0}, fringe(0, 0, 0), api.ErrTests}, {[4]int{9, 9, 1, 1}, fringe(0, 0, 0), api.ErrTests}, {[4]int{million, 0, 0, million}, fringe(0, 0, 0), api.ErrTests},
		{[4]int{million + 1, million, million - 1, million}, fringe(0, 0, 0), api.ErrArg}, {[4]int{1, 2, 1, 0 - 1}, fringe(0, 0, 0), api.ErrArg},
		{[4]int{math.MaxInt, 1, 1, 1}, fringe(0, 0, 0), api.ErrArg}, {[4]int{1, math.MinInt, 1, 1}, fringe(0, 0, 0), api.ErrArg}, {[4]int{-1, 5, 5, 0}, fringe(0, 0, 0), api.ErrArg},
	} {
		f, e := probe.Fringe(c.readings)
		expect(t, call("Fringe", c.readings), f, e, c.want, c.err)
	}
	for i := range 4 {
		for _, wrong := range extremes {
			if wrong >= 0 && wrong <= million {
				continue
			}
			for _, rest := range []int{0, 7, million} {
				readings := [4]int{rest, rest, rest, rest}
				readings[i] = wrong
				f, e := probe.Fringe(readings)
				expect(t, call("Fringe", readings), f, e, fringe(0, 0, 0), api.ErrArg)
			}
		}
	}
}

// P9.2 and P9.7: all small readings.
func TestFringeOfSmallReadings(t *testing.T) {
	const most = 12
	for number := range most * most * most * most {
		r := [4]int{number % most, number / most % most, number / most / most % most, number / most / most / most}
		want, err := fringe(r[0]+r[2], r[0]-r[2], r[1]-r[3]), api.OK
		if r[0]+r[2] != r[1]+r[3] || !isFringe(want) {
			want, err = api.Fringe{}, api.ErrTests
		}
		f, e := probe.Fringe(r)
		expect(t, call("Fringe", r), f, e, want, err)
		if err != api.OK {
			continue
		}
		again, e := probe.Readings(f)
		expect(t, call("Readings", f), again, e, r, api.OK)
		turned, e := probe.Fringe([4]int{r[1], r[2], r[3], r[0]})
		expect(t, call("Fringe turned", r), turned, e, fringe(f.Mean2, f.Y, -f.X), api.OK)
		octant, e := probe.Octant(f)
		back, err := probe.Octant(turned)
		if e != err || e == api.OK && back != (octant+6)%8 {
			t.Errorf("octant %d of %v, %d of it turned", octant, r, back)
		}
	}
}

// P9.2
func TestValidFringe(t *testing.T) {
	for _, f := range []api.Fringe{{}, fringe(5, 3, 4), fringe(5, -4, -3), fringe(1, 0, -1), fringe(2*million, million, million), fringe(2*million, -million, -million), fringe(million, 0, million), fringe(1000000, 800000, -600000), fringe(3, 2, 2), fringe(3, 1, 0)} {
		if !probe.ValidFringe(f) {
			t.Errorf("%v is not valid", f)
		}
	}
	for _, f := range notFringes {
		if probe.ValidFringe(f) {
			t.Errorf("%v is valid", f)
		}
	}
	for _, mean2 := range extremes {
		for _, x := range extremes {
			for _, y := range extremes {
				f := fringe(mean2, x, y)
				if is := probe.ValidFringe(f); is != isFringe(f) {
					t.Errorf("ValidFringe(%v) = %v", f, is)
				}
			}
		}
	}
	for mean2 := range 14 {
		for x := -14; x <= 14; x++ {
			for y := -14; y <= 14; y++ {
				f := fringe(mean2, x, y)
				if is := probe.ValidFringe(f); is != isFringe(f) {
					t.Errorf("ValidFringe(%v) = %v", f, is)
				}
			}
		}
	}
}

// P9.2: written out.
func TestReadings(t *testing.T) {
	for _, c := range []struct {
		f    api.Fringe
		want [4]int
		err  api.Errno
	}{
		{fringe(12, 8, 2), [4]int{10, 7, 2, 5}, api.OK}, {fringe(0, 0, 0), [4]int{}, api.OK}, {fringe(5, -3, 1), [4]int{1, 3, 4, 2}, api.OK}, {fringe(1, 1, -1), [4]int{}, api.ErrTests}, {fringe(3, 1, -1), [4]int{2, 1, 1, 2}, api.OK},
		{fringe(2*million, 0, 0), [4]int{million, million, million, million}, api.OK}, {fringe(2*million-2, 2, -2), [4]int{million, million - 2, million - 2, million}, api.OK}, {fringe(million, -million, 0), [4]int{0, million / 2, million, million / 2}, api.OK},
		// Not whole.
		{fringe(12, 7, 2), [4]int{}, api.ErrArg}, {fringe(12, 8, 3), [4]int{}, api.ErrArg}, {fringe(12, 7, 3), [4]int{}, api.ErrArg}, {fringe(11, 8, 2), [4]int{}, api.ErrArg}, {fringe(1, 0, 0), [4]int{}, api.ErrArg}, {fringe(11, -8, 1), [4]int{}, api.ErrArg}, {fringe(11, 7, -2), [4]int{}, api.ErrArg},
		// Above 10^6.
		{fringe(2*million, 2, 0), [4]int{}, api.ErrArg}, {fringe(2*million, -2, 0), [4]int{}, api.ErrArg}, {fringe(2*million, 0, 2), [4]int{}, api.ErrArg}, {fringe(2*million, 0, -2), [4]int{}, api.ErrArg}, {fringe(2*million, million, million), [4]int{}, api.ErrArg}, {fringe(2*million-1, 3, 1), [4]int{}, api.ErrArg}, {fringe(2*million-1, 1, -3), [4]int{}, api.ErrArg},
	} {
		readings, e := probe.Readings(c.f)
		expect(t, call("Readings", c.f), readings, e, c.want, c.err)
	}
}

// P9.2 and P9.7: Readings of Fringe are the readings, and Fringe of Readings the fringe.
func TestReadingsBack(t *testing.T) {
	r := random(1)
	times := map[api.Errno]int{}
	for range 100000 {
		f := anyFringe(r)
		readings, e := probe.Readings(f)
		times[e]++
		whole, high := true, false
		for _, twice := range []int{f.Mean2 + f.X, f.Mean2 + f.Y, f.Mean2 - f.X, f.Mean2 - f.Y} {
			whole, high = whole && twice%2 == 0, high || twice > 2*million
		}
		if !whole || high {
			expect(t, call("Readings", f), readings, e, [4]int{}, api.ErrArg)
			continue
		}
		again, err := probe.Fringe(readings)
		if e != api.OK {
			t.Errorf("Readings(%v): error %d", f, e)
		}
		expect(t, call("Fringe", readings), again, err, f, api.OK)
	}
	if times[api.OK] < 10000 || times[api.ErrArg] < 10000 || len(times) != 2 {
		t.Errorf("errors %v", times)
	}
}

// The document's first example, P9.3 and P9.7.
func TestVisibility(t *testing.T) {
	for _, c := range []struct {
		f    api.Fringe
		want api.Ratio
		err  api.Errno
	}{
		{fringe(12, 8, 2), api.Ratio{N: 17, D: 36}, api.OK}, {fringe(12, 0, 0), api.Ratio{N: 0, D: 1}, api.OK}, {fringe(5, 3, -4), api.Ratio{N: 1, D: 1}, api.OK}, {fringe(1, 0, 0), api.Ratio{N: 0, D: 1}, api.OK},
		{fringe(7, 1, 0), api.Ratio{N: 1, D: 49}, api.OK}, {fringe(2*million, million, -million), api.Ratio{N: 1, D: 2}, api.OK}, {fringe(2*million, 1, 0), api.Ratio{N: 1, D: 4 * million * million}, api.OK}, {fringe(1999999, 999983, 999979), api.Ratio{N: 1999924000730, D: 3999996000001}, api.OK},
		{fringe(0, 0, 0), api.Ratio{}, api.ErrNone},
	} {
		v, e := probe.Visibility(c.f)
		expect(t, call("Visibility", c.f), v, e, c.want, c.err)
	}
	r := random(2)
	for range 50000 {
		f := anyFringe(r)
		if f.Mean2 == 0 {
			continue
		}
		want := big.NewRat(int64(f.X*f.X+f.Y*f.Y), int64(f.Mean2*f.Mean2))
		v, e := probe.Visibility(f)
		if fmt.Sprint(v.N, "/", v.D) != fmt.Sprint(want.Num(), "/", want.Denom()) || e != api.OK || v.N < 0 || v.N > v.D {
			t.Errorf("Visibility(%v) = %v, %d; want %v", f, v, e, want)
		}
	}
}

// octantOf returns the octant of a vector: it is next to an axis if the tangent of
// its angle there is below the root of 2 less 1, which is that of a sixteenth of a turn.
func octantOf(x, y int) int {
	width, height := max(x, -x), max(y, -y)
	both := (width + height) * (width + height)
	switch {
	case both < 2*width*width && x > 0:
		return 0
	case both < 2*width*width:
		return 4
	case both < 2*height*height && y > 0:
		return 2
	case both < 2*height*height:
		return 6
	case x > 0 && y > 0:
		return 1
	case y > 0:
		return 3
	case x < 0:
		return 5
	}
	return 7
}

// The document's first example, P9.3 and P9.7.
func TestOctant(t *testing.T) {
	for _, c := range []struct {
		f    api.Fringe
		want int
		err  api.Errno
	}{
		{fringe(12, 8, 2), 0, api.OK}, {fringe(9, 5, 0), 0, api.OK}, {fringe(9, 5, 5), 1, api.OK}, {fringe(9, 0, 5), 2, api.OK}, {fringe(9, -5, 5), 3, api.OK}, {fringe(9, -5, 0), 4, api.OK}, {fringe(9, -5, -5), 5, api.OK}, {fringe(9, 0, -5), 6, api.OK}, {fringe(9, 5, -5), 7, api.OK},
		{fringe(9, 2, 1), 1, api.OK}, {fringe(9, 5, 2), 0, api.OK}, {fringe(9, 1, 2), 1, api.OK}, {fringe(9, 2, 5), 2, api.OK}, {fringe(9, 2, -1), 7, api.OK}, {fringe(9, 5, -2), 0, api.OK}, {fringe(20, 5, 12), 1, api.OK}, {fringe(20, 12, 5), 1, api.OK}, {fringe(40, 12, 29), 2, api.OK}, {fringe(40, 29, -12), 0, api.OK},
		{fringe(2*million, million, million), 1, api.OK}, {fringe(2*million, -million, -million), 5, api.OK}, {fringe(1, 0, 1), 2, api.OK},
		{fringe(0, 0, 0), 0, api.ErrNone}, {fringe(12, 0, 0), 0, api.ErrNone}, {fringe(2*million, 0, 0), 0, api.ErrNone},
	} {
		octant, e := probe.Octant(c.f)
		expect(t, call("Octant", c.f), octant, e, c.want, c.err)
	}
	for x := -40; x <= 40; x++ {
		for y := -40; y <= 40; y++ {
			if x == 0 && y == 0 {
				continue
			}
			// Rounded, the angle is a number of eighths of a turn from -4 to 4.
			want := (int(math.Round(math.Atan2(float64(y), float64(x))/(math.Pi/4))) + 8) % 8
			octant, e := probe.Octant(fringe(60, x, y))
			expect(t, call("Octant", x, y), octant, e, want, api.OK)
			expect(t, call("octantOf", x, y), octantOf(x, y), e, want, api.OK)
		}
	}
}

// P9.3 and P9.7: large vectors, and such that are near to the border of two octants.
func TestOctants(t *testing.T) {
	var vectors [][2]int
	// Each of these fractions is nearer to the root of 2 less 1, from below or from above.
	for a, b := 1, 2; b <= million; a, b = b, 2*b+a {
		vectors = append(vectors, [2]int{b, a}, [2]int{b, a - 1}, [2]int{b, a + 1}, [2]int{b - 1, a})
	}
	r := random(3)
	for range 20000 {
		f := anyFringe(r)
		vectors = append(vectors, [2]int{f.X, f.Y})
	}
	for _, v := range vectors {
		for _, signs := range [][2]int{{1, 1}, {1, -1}, {-1, 1}, {-1, -1}} {
			x, y := signs[0]*v[0], signs[1]*v[1]
			if x == 0 && y == 0 {
				continue
			}
			octant, e := probe.Octant(fringe(2*million, x, y))
			expect(t, call("Octant", x, y), octant, e, octantOf(x, y), api.OK)
			other, e := probe.Octant(fringe(2*million, y, x))
			expect(t, call("Octant", y, x), other, e, octantOf(y, x), api.OK)
			opposite, e := probe.Octant(fringe(2*million, -x, -y))
			expect(t, call("Octant", -x, -y), opposite, e, (octant+4)%8, api.OK)
		}
	}
}

// P9.3
func TestMixed(t *testing.T) {
	tenth := fringe(million/50, million/100, 0)
	for _, c := range []struct {
		l    []api.Fringe
		want api.Fringe
		err  api.Errno
	}{
		{[]api.Fringe{fringe(12, 8, 2)}, fringe(12, 8, 2), api.OK}, {[]api.Fringe{fringe(12, 8, 2), fringe(5, -3, 4), fringe(1, 0, -1)}, fringe(18, 5, 5), api.OK}, {[]api.Fringe{{}}, fringe(0, 0, 0), api.OK},
		{make([]api.Fringe, 100), fringe(0, 0, 0), api.OK}, {slices.Repeat([]api.Fringe{tenth}, 100), fringe(2*million, million, 0), api.OK}, {slices.Repeat([]api.Fringe{fringe(20000, 0, -10000)}, 100), fringe(2*million, 0, -million), api.OK},
		{nil, fringe(0, 0, 0), api.ErrArg}, {[]api.Fringe{}, fringe(0, 0, 0), api.ErrArg}, {make([]api.Fringe, 101), fringe(0, 0, 0), api.ErrArg}, {make([]api.Fringe, 100000), fringe(0, 0, 0), api.ErrArg}, {slices.Repeat([]api.Fringe{tenth}, 101), fringe(0, 0, 0), api.ErrArg},
		{[]api.Fringe{fringe(2*million, 0, 0), fringe(1, 0, 0)}, fringe(0, 0, 0), api.ErrLimit}, {[]api.Fringe{fringe(million, million, 0), fringe(1, 1, 0)}, fringe(0, 0, 0), api.ErrLimit}, {[]api.Fringe{fringe(million, 0, -million), fringe(2, 1, -1)}, fringe(0, 0, 0), api.ErrLimit}, {[]api.Fringe{fringe(million, 0, million), fringe(2, 1, 1)}, fringe(0, 0, 0), api.ErrLimit}, {[]api.Fringe{fringe(million, -million, 0), fringe(2, -1, 1)}, fringe(0, 0, 0), api.ErrLimit},
		// Too much on the way, but not in the end.
		{[]api.Fringe{fringe(900000, 900000, 0), fringe(200000, 200000, 0), fringe(200000, -200000, 0)}, fringe(1300000, 900000, 0), api.OK},
		{slices.Repeat([]api.Fringe{fringe(2*million, million, million)}, 100), fringe(0, 0, 0), api.ErrLimit},
	} {
		f, e := probe.Mixed(c.l)
		expect(t, call("Mixed", len(c.l), c.l), f, e, c.want, c.err)
	}
	r := random(4)
	for range 5000 {
		var l []api.Fringe
		var want api.Fringe
		for range 1 + r.Intn(6) {
			f := anyFringe(r)
			l = append(l, f)
			want = fringe(want.Mean2+f.Mean2, want.X+f.X, want.Y+f.Y)
		}
		err := api.OK
		if !isFringe(want) {
			want, err = api.Fringe{}, api.ErrLimit
		}
		f, e := probe.Mixed(l)
		expect(t, call("Mixed", l), f, e, want, err)
	}
}

// P9.2 and P9.3: a fringe that is not valid comes first.
func TestFringeErrors(t *testing.T) {
	for _, f := range notFringes {
		readings, e := probe.Readings(f)
		expect(t, call("Readings", f), readings, e, [4]int{}, api.ErrTests)
		v, e := probe.Visibility(f)
		expect(t, call("Visibility", f), v, e, api.Ratio{}, api.ErrTests)
		octant, e := probe.Octant(f)
		expect(t, call("Octant", f), octant, e, 0, api.ErrTests)
		for _, l := range [][]api.Fringe{{f}, {f, fringe(12, 8, 2)}, {fringe(2*million, 0, 0), fringe(2*million, 0, 0), f}, append(make([]api.Fringe, 99), f), append(make([]api.Fringe, 100), f), append([]api.Fringe{f}, make([]api.Fringe, 5000)...), append(make([]api.Fringe, 5000), f)} {
			mixed, e := probe.Mixed(l)
			expect(t, call("Mixed", len(l), f), mixed, e, api.Fringe{}, api.ErrTests)
		}
	}
}

// R4
func TestFringesAreTheCallers(t *testing.T) {
	l := []api.Fringe{fringe(12, 8, 2), fringe(5, -3, 4)}
	before := slices.Clone(l)
	_, _ = probe.Mixed(l)
	if !slices.Equal(l, before) {
		t.Errorf("fringes %v have become %v", before, l)
	}
}
