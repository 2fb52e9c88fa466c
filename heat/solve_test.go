package heat_test

import (
	"math"
	"math/big"
	"slices"
	"testing"

	"photonmesh/api"
	"photonmesh/heat"
)

// whole returns whole numbers as ratios.
func whole(l ...int) []api.Ratio {
	var q []api.Ratio
	for _, n := range l {
		q = append(q, api.Ratio{N: n, D: 1})
	}
	return q
}

// P6.3
func TestSolveExamples(t *testing.T) {
	for _, c := range []struct {
		b       api.Bank
		want    []int
		det     int
		powers  []api.Ratio
		inverse [][]api.Ratio
		err     api.Errno
	}{
		{example(), []int{1000, 1000}, 9800, []api.Ratio{{N: 450, D: 49}, {N: 400, D: 49}}, [][]api.Ratio{{{N: 1, D: 98}, {N: -1, D: 980}}, {{N: -1, D: 490}, {N: 1, D: 98}}}, api.OK},
		{gains([]int{-7}), []int{21}, -7, whole(-3), [][]api.Ratio{{{N: -1, D: 7}}}, api.OK}, {gains([]int{-7}), []int{0}, -7, whole(0), [][]api.Ratio{{{N: -1, D: 7}}}, api.OK},
		{gains([]int{6}), []int{-4}, 6, []api.Ratio{{N: -2, D: 3}}, [][]api.Ratio{{{N: 1, D: 6}}}, api.OK}, {gains([]int{-1}), []int{1000000}, -1, whole(-1000000), [][]api.Ratio{whole(-1)}, api.OK},
		{gains([]int{0, 1}, []int{1, 0}), []int{3, 4}, -1, whole(4, 3), [][]api.Ratio{whole(0, 1), whole(1, 0)}, api.OK}, {gains([]int{1, 1}, []int{0, 1}), []int{0, 1}, 1, whole(-1, 1), [][]api.Ratio{whole(1, -1), whole(0, 1)}, api.OK},
		{gains([]int{1, 2}, []int{3, 4}), []int{5, 6}, -2, []api.Ratio{{N: -4, D: 1}, {N: 9, D: 2}}, [][]api.Ratio{{{N: -2, D: 1}, {N: 1, D: 1}}, {{N: 3, D: 2}, {N: -1, D: 2}}}, api.OK},
		{gains([]int{0, 1, 0}, []int{0, 0, 1}, []int{1, 0, 0}), []int{1, 2, 3}, 1, whole(3, 1, 2), [][]api.Ratio{whole(0, 0, 1), whole(1, 0, 0), whole(0, 1, 0)}, api.OK},
		{gains([]int{0}), []int{0}, 0, nil, nil, api.ErrSingular}, {gains([]int{0}), []int{1}, 0, nil, nil, api.ErrSingular}, {filled(2, 1), []int{1, 1}, 0, nil, nil, api.ErrSingular},
		{gains([]int{1, 2}, []int{-2, -4}), []int{0, 0}, 0, nil, nil, api.ErrSingular}, {gains([]int{1, 2, 3}, []int{4, 5, 6}, []int{7, 8, 9}), []int{1, 2, 3}, 0, nil, nil, api.ErrSingular}, {filled(5, 200), make([]int, 5), 0, nil, nil, api.ErrSingular},
	} {
		det, e := heat.Det(c.b)
		expect(t, call("Det", c.b), det, e, c.det, api.OK)
		q, e := heat.Solve(c.b, c.want)
		expectList(t, call("Solve", c.b, c.want), q, e, c.powers, c.err)
		rows, e := heat.Inverse(c.b)
		expectRows(t, call("Inverse", c.b), rows, e, c.inverse, c.err)
	}
}

// P6.3: as elimination finds them.
func TestSolve(t *testing.T) {
	r := random(11)
	singular := 0
	for _, b := range someBanks(11, 200) {
		n := len(b.Gain)
		for _, want := range [][]int{anyPhases(r, n), anyList(r, n, -10, 10)} {
			det, l := eliminate(b, want)
			err := api.OK
			if det.Sign() == 0 {
				err, l = api.ErrSingular, make([][]api.Ratio, 1)
				singular++
			}
			q, e := heat.Solve(b, want)
			expectList(t, call("Solve", b, want), q, e, l[0], err)
			if got, e := heat.Det(b); big.NewRat(int64(got), 1).Cmp(det) != 0 || e != api.OK {
				t.Errorf("%s = %d, %d; want %v", call("Det", b), got, e, det)
			}
		}
	}
	if singular < 100 {
		t.Errorf("only %d banks have a Det of 0", singular)
	}
}

// P6.3: as elimination finds it.
func TestInverse(t *testing.T) {
	for _, b := range someBanks(12, 200) {
		n := len(b.Gain)
		det, columns := eliminate(b, units(n)...)
		rows, e := heat.Inverse(b)
		if det.Sign() == 0 {
			expectRows(t, call("Inverse", b), rows, e, nil, api.ErrSingular)
			continue
		}
		var want [][]api.Ratio
		for i := range n {
			var row []api.Ratio
			for k := range n {
				row = append(row, columns[k][i])
			}
			want = append(want, row)
		}
		expectRows(t, call("Inverse", b), rows, e, want, api.OK)
	}
}

// P6.4
func TestRoundExamples(t *testing.T) {
	const far = 1000000000000000000
	for _, c := range []struct {
		l    []api.Ratio
		want []int
		err  api.Errno
	}{
		{[]api.Ratio{{N: 450, D: 49}, {N: 400, D: 49}}, []int{9, 8}, api.OK}, {whole(0, 1, 2, 999, 1000), []int{0, 1, 2, 999, 1000}, api.OK}, {[]api.Ratio{{N: 1, D: 2}, {N: 3, D: 2}, {N: 5, D: 2}}, []int{1, 2, 3}, api.OK},
		{[]api.Ratio{{N: -1, D: 2}, {N: -1, D: 3}, {N: 1, D: 3}, {N: 2, D: 3}}, []int{0, 0, 0, 1}, api.OK}, {[]api.Ratio{{N: 4, D: 8}, {N: 30, D: 3}}, []int{1, 10}, api.OK}, {[]api.Ratio{{N: 0, D: 7}}, []int{0}, api.OK},
		{[]api.Ratio{{N: -2, D: 3}}, nil, api.ErrBudget}, {whole(-1), nil, api.ErrBudget}, {whole(1, -1), nil, api.ErrBudget}, {[]api.Ratio{{N: -500000001, D: 1000000000}}, nil, api.ErrBudget}, {[]api.Ratio{{N: -500000000, D: 1000000000}}, []int{0}, api.OK},
		{whole(1001), nil, api.ErrBudget}, {[]api.Ratio{{N: 2001, D: 2}}, nil, api.ErrBudget}, {[]api.Ratio{{N: 2000999, D: 2000}}, []int{1000}, api.OK}, {[]api.Ratio{{N: 2001000, D: 2000}}, nil, api.ErrBudget}, {whole(0, 0, 0, 0, 1001), nil, api.ErrBudget},
		{[]api.Ratio{{N: far, D: far}, {N: -far, D: far}}, nil, api.ErrBudget}, {[]api.Ratio{{N: far, D: far}, {N: far / 2, D: far}, {N: far/2 - 1, D: far}, {N: -far / 2, D: far}}, []int{1, 1, 0, 0}, api.OK}, {[]api.Ratio{{N: -far/2 - 1, D: far}}, nil, api.ErrBudget},
		{whole(far), nil, api.ErrBudget}, {whole(-far), nil, api.ErrBudget}, {[]api.Ratio{{N: far, D: far / 1000}, {N: far, D: far - 1}, {N: 1, D: far}, {N: -1, D: far}}, []int{1000, 1, 0, 0}, api.OK},
		{nil, nil, api.ErrArg}, {[]api.Ratio{}, nil, api.ErrArg}, {whole(0, 0, 0, 0, 0, 0), nil, api.ErrArg}, {make([]api.Ratio, 1000), nil, api.ErrArg}, {[]api.Ratio{{}}, nil, api.ErrArg}, {[]api.Ratio{{N: 1, D: -1}}, nil, api.ErrArg},
		{whole(far + 1), nil, api.ErrArg}, {whole(-far - 1), nil, api.ErrArg}, {whole(math.MaxInt), nil, api.ErrArg}, {whole(math.MinInt), nil, api.ErrArg}, {[]api.Ratio{{N: 1, D: far + 1}}, nil, api.ErrArg},
		{[]api.Ratio{{N: 1, D: math.MaxInt}}, nil, api.ErrArg}, {[]api.Ratio{{N: 1, D: math.MinInt}}, nil, api.ErrArg}, {[]api.Ratio{{N: 1, D: -far}}, nil, api.ErrArg}, {[]api.Ratio{{N: -5, D: 1}, {N: 1, D: 0}}, nil, api.ErrArg}, {append(whole(5000), whole(far+1)...), nil, api.ErrArg},
	} {
		l, e := heat.Round(c.l)
		expectList(t, call("Round", c.l), l, e, c.want, c.err)
	}
}

// P6.4: no whole number is nearer, and none that is as near is greater.
func TestRound(t *testing.T) {
	r := random(13)
	for range 5000 {
		var l []api.Ratio
		for range between(r, 1, 5) {
			d := 1 + r.Intn(1<<between(r, 1, 58))
			most := min(1000*d+d/2, 1000000000000000000)
			if d > 1<<50 {
				most = min(5*d, 1000000000000000000)
			}
			l = append(l, api.Ratio{N: between(r, -d/2, max(most-d, 0)), D: d})
		}
		got, e := heat.Round(l)
		if e != api.OK || len(got) != len(l) {
			t.Errorf("%s = %v, %d", call("Round", l), got, e)
			continue
		}
		for k, q := range l {
			// The number less the ratio is from more than -1/2 to 1/2.
			above := new(big.Rat).Sub(big.NewRat(int64(got[k]), 1), fraction(q))
			if above.Cmp(big.NewRat(-1, 2)) <= 0 || above.Cmp(big.NewRat(1, 2)) > 0 {
				t.Errorf("%s = %v", call("Round", l), got)
			}
		}
	}
}

// R4: what a call has returned is not what the next one returns, and no argument changes.
func TestNewResults(t *testing.T) {
	b, want, powers := example(), []int{1000, 1000}, []int{9, 8}
	l := []api.Ratio{{N: 450, D: 49}, {N: 400, D: 49}}
	for range 2 {
		off, e := heat.Off(b, want, powers)
		expectList(t, "Off", off, e, []int{-20, -20}, api.OK)
		bound, e := heat.Bound(b)
		expectList(t, "Bound", bound, e, []int{110, 120}, api.OK)
		phases, e := heat.Phases(b, want, powers)
		expectList(t, "Phases", phases, e, []int{1980, 1980}, api.OK)
		q, e := heat.Solve(b, want)
		expectList(t, "Solve", q, e, l, api.OK)
		rounded, e := heat.Round(l)
		expectList(t, "Round", rounded, e, powers, api.OK)
		cheapest, e := heat.Cheapest(b, want, 20, 20)
		expectList(t, "Cheapest", cheapest, e, powers, api.OK)
		steps, e := heat.Steps(powers, []int{0, 10}, 100)
		expectList(t, "Steps", steps, e, [][2]int{{0, 0}, {1, 10}}, api.OK)
		rows, e := heat.Inverse(b)
		expectRows(t, "Inverse", rows, e, [][]api.Ratio{{{N: 1, D: 98}, {N: -1, D: 980}}, {{N: -1, D: 490}, {N: 1, D: 98}}}, api.OK)
		peak, e := heat.Peak(powers, steps)
		expect(t, "Peak", peak, e, 17, api.OK)
		for _, m := range [][]int{off, bound, phases, rounded, cheapest} {
			clear(m)
		}
		// More elements behind a row are not those of the next one.
		_ = append(rows[0], api.Ratio{N: 77, D: 1})
		if rows[1][0] != (api.Ratio{N: -1, D: 490}) {
			t.Errorf("the rows of Inverse share memory: %v", rows)
		}
		clear(q)
		clear(steps)
		clear(rows[0])
	}
	if !slices.Equal(want, []int{1000, 1000}) || !slices.Equal(powers, []int{9, 8}) || !slices.Equal(b.Gain[0], []int{100, 10}) || !slices.Equal(b.Gain[1], []int{20, 100}) {
		t.Errorf("the arguments have become %v, %v, %v", b, want, powers)
	}
}
