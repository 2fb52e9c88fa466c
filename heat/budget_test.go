package heat_test

import (
	"math"
	"slices"
	"testing"

	"photonmesh/api"
	"photonmesh/heat"
)

// P6.5
func TestCheapestExamples(t *testing.T) {
	one, two := gains([]int{1}), gains([]int{1, 1}, []int{1, 1})
	for _, c := range []struct {
		b          api.Bank
		want       []int
		slack, top int
		powers     []int
		err        api.Errno
	}{
		{one, []int{5}, 0, 20, []int{5}, api.OK}, {one, []int{5}, 2, 20, []int{3}, api.OK}, {one, []int{5}, 5, 20, []int{0}, api.OK}, {one, []int{20}, 0, 20, []int{20}, api.OK}, {one, []int{21}, 0, 20, nil, api.ErrBudget}, {one, []int{21}, 1, 20, []int{20}, api.OK},
		{one, []int{0}, 0, 0, []int{0}, api.OK}, {one, []int{1}, 0, 0, nil, api.ErrBudget}, {one, []int{5}, 0, 4, nil, api.ErrBudget}, {one, []int{-1}, 0, 20, nil, api.ErrBudget}, {one, []int{-1000000}, 1000000, 0, []int{0}, api.OK}, {one, []int{-1000000}, 999999, 20, nil, api.ErrBudget},
		// Of several with the least sum the first list is taken.
		{two, []int{3, 3}, 0, 20, []int{0, 3}, api.OK}, {two, []int{3, 3}, 0, 2, []int{1, 2}, api.OK}, {filled(3, -2), []int{-10, -9, -11}, 1, 3, []int{0, 2, 3}, api.OK}, {filled(3, 0), []int{7, -7, 0}, 7, 20, []int{0, 0, 0}, api.OK},
		// The list that comes first may be dearer.
		{gains([]int{2, 1}, []int{2, 1}), []int{4, 4}, 0, 20, []int{2, 0}, api.OK}, {gains([]int{2, 1}, []int{2, 1}), []int{4, 4}, 0, 1, nil, api.ErrBudget}, {gains([]int{2, 1}, []int{2, 1}), []int{3, 3}, 0, 1, []int{1, 1}, api.OK},
		{example(), []int{1000, 1000}, 20, 20, []int{9, 8}, api.OK}, {example(), []int{1000, 1000}, 19, 20, nil, api.ErrBudget}, {example(), []int{1000, 1000}, 20, 8, nil, api.ErrBudget}, {diagonal(200, -200, 100), []int{4000, -4000, 0}, 0, 20, []int{20, 20, 0}, api.OK},
		{diagonal(200, -200, 100), []int{4000, -4000, 0}, 0, 19, nil, api.ErrBudget}, {filled(3, 200), []int{12000, 12000, 12000}, 0, 20, []int{20, 20, 20}, api.OK},
		{one, []int{5}, -1, 20, nil, api.ErrArg}, {one, []int{5}, 1000001, 20, nil, api.ErrArg}, {one, []int{5}, 0, -1, nil, api.ErrArg}, {one, []int{5}, 0, 21, nil, api.ErrArg}, {one, []int{5}, math.MinInt, 20, nil, api.ErrArg}, {one, []int{5}, math.MaxInt, 20, nil, api.ErrArg},
		{one, []int{5}, 0, math.MaxInt, nil, api.ErrArg}, {one, []int{5}, 0, math.MinInt, nil, api.ErrArg}, {one, []int{5, 5}, 0, 20, nil, api.ErrArg}, {one, nil, 0, 20, nil, api.ErrArg}, {one, []int{1000001}, 1000000, 20, nil, api.ErrArg},
		// ErrArg comes in front of ErrLimit, and that in front of ErrBudget.
		{filled(4, 1), make([]int, 4), 0, 20, nil, api.ErrLimit}, {filled(5, 1), make([]int, 5), 1000000, 0, nil, api.ErrLimit}, {filled(4, 0), []int{1, 1, 1, 1}, 0, 0, nil, api.ErrLimit}, {filled(4, 1), make([]int, 4), -1, 20, nil, api.ErrArg},
		{filled(4, 1), make([]int, 4), 0, 21, nil, api.ErrArg}, {filled(5, 1), make([]int, 4), 0, 20, nil, api.ErrArg}, {filled(4, 1), []int{0, 0, 0, 1000001}, 0, 20, nil, api.ErrArg}, {filled(6, 1), make([]int, 6), -1, 21, nil, api.ErrHeat},
	} {
		l, e := heat.Cheapest(c.b, c.want, c.slack, c.top)
		expectList(t, call("Cheapest", c.b, c.want, c.slack, c.top), l, e, c.powers, c.err)
	}
}

// before reports whether powers are cheaper than others, or as cheap and come first.
func before(l, m []int) bool {
	if total(l) != total(m) {
		return total(l) < total(m)
	}
	return slices.Compare(l, m) < 0
}

// readCheapest tries all powers up to top, from those on that come last.
func readCheapest(b api.Bank, want []int, slack, top int) ([]int, api.Errno) {
	lists := [][]int{nil}
	for range b.Gain {
		var longer [][]int
		for _, l := range lists {
			for p := top; p >= 0; p-- {
				longer = append(longer, append([]int{p}, l...))
			}
		}
		lists = longer
	}
	var best []int
	for _, l := range lists {
		far := slices.ContainsFunc(offBy(b, want, l), func(x int) bool { return abs(x) > slack })
		if !far && (best == nil || before(l, best)) {
			best = l
		}
	}
	if best == nil {
		return nil, api.ErrBudget
	}
	return best, api.OK
}

// P6.5
func TestCheapest(t *testing.T) {
	r := random(21)
	count := map[api.Errno]int{}
	for range 600 {
		n := between(r, 1, 3)
		b := anyBank(r, n)
		top := between(r, 0, 20)
		if n == 3 {
			top = between(r, 0, 9)
		}
		want := turned(b, anyList(r, n, 0, max(top, 1)))
		slack := []int{0, 1, 3, 30, 300, 3000}[r.Intn(6)]
		for i := range want {
			want[i] += between(r, -slack, slack)
		}
		powers, err := readCheapest(b, want, slack, top)
		l, e := heat.Cheapest(b, want, slack, top)
		expectList(t, call("Cheapest", b, want, slack, top), l, e, powers, err)
		count[e]++
	}
	if count[api.OK] < 300 || count[api.ErrBudget] < 10 {
		t.Errorf("only these errors are met: %v", count)
	}
}

// P6.6
func TestSteps(t *testing.T) {
	for _, c := range []struct {
		from, to []int
		budget   int
		want     [][2]int
		err      api.Errno
	}{
		{[]int{5, 1}, []int{2, 4}, 6, [][2]int{{0, 2}, {1, 4}}, api.OK}, {[]int{1, 5}, []int{4, 2}, 6, [][2]int{{1, 2}, {0, 4}}, api.OK}, {[]int{5, 1}, []int{2, 4}, 5, nil, api.ErrBudget}, {[]int{7}, []int{7}, 7, nil, api.OK}, {[]int{0}, []int{0}, 0, nil, api.OK},
		{[]int{1, 9, 3, 4, 5}, []int{2, 8, 3, 5, 0}, 5000, [][2]int{{1, 8}, {4, 0}, {0, 2}, {3, 5}}, api.OK}, {[]int{9, 8, 7}, []int{1, 2, 3}, 24, [][2]int{{0, 1}, {1, 2}, {2, 3}}, api.OK}, {[]int{1, 2, 3}, []int{9, 8, 7}, 24, [][2]int{{0, 9}, {1, 8}, {2, 7}}, api.OK},
		{[]int{9, 8, 7}, []int{1, 2, 3}, 23, nil, api.ErrBudget}, {[]int{1, 2, 3}, []int{9, 8, 7}, 23, nil, api.ErrBudget}, {[]int{1}, []int{1}, 0, nil, api.ErrBudget}, {[]int{0, 0}, []int{0, 1}, 0, nil, api.ErrBudget},
		{slices.Repeat([]int{1000}, 5), slices.Repeat([]int{1000}, 5), 5000, nil, api.OK}, {slices.Repeat([]int{1000}, 5), slices.Repeat([]int{0}, 5), 4999, nil, api.ErrBudget},
		{[]int{0}, []int{0}, -1, nil, api.ErrArg}, {[]int{0}, []int{0}, 5001, nil, api.ErrArg}, {[]int{0}, []int{0}, math.MaxInt, nil, api.ErrArg}, {[]int{0}, []int{0}, math.MinInt, nil, api.ErrArg}, {[]int{1000}, []int{1000}, -1, nil, api.ErrArg},
		{nil, nil, 0, nil, api.ErrArg}, {[]int{}, []int{}, 0, nil, api.ErrArg}, {make([]int, 6), make([]int, 6), 0, nil, api.ErrArg}, {[]int{1, 2}, []int{1}, 5000, nil, api.ErrArg}, {[]int{1}, []int{1, 2}, 5000, nil, api.ErrArg}, {[]int{1}, nil, 5000, nil, api.ErrArg}, {nil, []int{1}, 5000, nil, api.ErrArg},
		{make([]int, 5), make([]int, 6), 5000, nil, api.ErrArg},
	} {
		l, e := heat.Steps(c.from, c.to, c.budget)
		expectList(t, call("Steps", c.from, c.to, c.budget), l, e, c.want, c.err)
	}
	for n := 1; n <= 5; n++ {
		fine := slices.Repeat([]int{1}, n)
		for _, list := range notPowers(n) {
			for _, budget := range []int{5000, 0} { // ErrArg comes in front of ErrBudget
				l, e := heat.Steps(list, fine, budget)
				expectList(t, call("Steps", list, fine, budget), l, e, nil, api.ErrArg)
				l, e = heat.Steps(fine, list, budget)
				expectList(t, call("Steps", fine, list, budget), l, e, nil, api.ErrArg)
			}
		}
	}
}

// P6.6
func TestPeak(t *testing.T) {
	full := slices.Repeat([]int{1000}, 5)
	for _, c := range []struct {
		from  []int
		steps [][2]int
		want  int
		err   api.Errno
	}{
		{[]int{5, 1}, [][2]int{{0, 2}, {1, 4}}, 6, api.OK}, {[]int{5, 1}, [][2]int{{1, 4}, {0, 2}}, 9, api.OK}, {[]int{5, 1}, nil, 6, api.OK}, {[]int{0}, [][2]int{}, 0, api.OK}, {[]int{3}, [][2]int{{0, 0}, {0, 1000}, {0, 0}}, 1000, api.OK},
		{[]int{3, 3}, [][2]int{{0, 4}, {0, 4}, {0, 2}, {1, 4}}, 7, api.OK}, {[]int{3, 3}, [][2]int{{0, 3}}, 6, api.OK}, {full, [][2]int{{4, 1000}, {0, 0}}, 5000, api.OK}, {make([]int, 5), [][2]int{{0, 1000}, {1, 1000}, {2, 1000}, {3, 1000}, {4, 1000}}, 5000, api.OK},
		{[]int{0}, slices.Repeat([][2]int{{0, 7}}, 100), 7, api.OK}, {[]int{0}, slices.Repeat([][2]int{{0, 7}}, 101), 0, api.ErrArg}, {[]int{0}, make([][2]int, 100000), 0, api.ErrArg},
		{[]int{1, 2}, [][2]int{{2, 0}}, 0, api.ErrArg}, {[]int{1, 2}, [][2]int{{-1, 0}}, 0, api.ErrArg}, {[]int{1, 2}, [][2]int{{math.MaxInt, 0}}, 0, api.ErrArg}, {[]int{1, 2}, [][2]int{{math.MinInt, 0}}, 0, api.ErrArg}, {[]int{1, 2, 3}, [][2]int{{0, 9}, {1, 9}, {3, 9}}, 0, api.ErrArg},
		{[]int{1, 2}, [][2]int{{0, -1}}, 0, api.ErrArg}, {[]int{1, 2}, [][2]int{{0, 1001}}, 0, api.ErrArg}, {[]int{1, 2}, [][2]int{{1, 5}, {0, math.MaxInt}}, 0, api.ErrArg}, {[]int{1, 2}, [][2]int{{1, math.MinInt}}, 0, api.ErrArg}, {nil, nil, 0, api.ErrArg},
		{[]int{}, nil, 0, api.ErrArg}, {make([]int, 6), nil, 0, api.ErrArg}, {make([]int, 1000), nil, 0, api.ErrArg}, {[]int{1001}, nil, 0, api.ErrArg}, {[]int{0, -1}, nil, 0, api.ErrArg}, {[]int{math.MinInt}, [][2]int{{0, 0}}, 0, api.ErrArg}, {[]int{math.MaxInt, 1}, nil, 0, api.ErrArg},
	} {
		n, e := heat.Peak(c.from, c.steps)
		expect(t, call("Peak", c.from, c.steps), n, e, c.want, c.err)
	}
}

// P6.6: the sums are looked at behind each change, and the powers stay what they were.
func TestPeakOfAnySteps(t *testing.T) {
	r := random(22)
	for range 2000 {
		n := between(r, 1, 5)
		from := anyPowers(r, n)
		var steps [][2]int
		now := slices.Clone(from)
		want := total(now)
		for range between(r, 0, 100) {
			s := [2]int{r.Intn(n), anyPowers(r, 1)[0]}
			now[s[0]] = s[1]
			want = max(want, total(now))
			steps = append(steps, s)
		}
		kept := slices.Clone(from)
		peak, e := heat.Peak(from, steps)
		expect(t, call("Peak", from, steps), peak, e, want, api.OK)
		expectList(t, "the powers", from, api.OK, kept, api.OK)
	}
}
