package heat_test

import (
	"math"
	"slices"
	"testing"

	"photonmesh/api"
	"photonmesh/heat"
)

// expectBank reports calls with a bank, and lists of n numbers, that do not all have this error.
func expectBank(t *testing.T, b api.Bank, list []int, slack, top int, err api.Errno) {
	t.Helper()
	l, e := heat.Phases(b, list, list)
	expectList(t, call("Phases", b, list), l, e, nil, err)
	q, e := heat.Solve(b, list)
	expectList(t, call("Solve", b, list), q, e, nil, err)
	l, e = heat.Off(b, list, list)
	expectList(t, call("Off", b, list), l, e, nil, err)
	l, e = heat.Cheapest(b, list, slack, top)
	expectList(t, call("Cheapest", b, list, slack, top), l, e, nil, err)
	ends, e := heat.Spread(b, list, slack)
	expect(t, call("Spread", b, list, slack), ends, e, [2]int{}, err)
}

// P6.1: ErrHeat comes in front of ErrArg, ErrLimit, ErrSingular and ErrBudget.
func TestInvalidBanksComeFirst(t *testing.T) {
	for _, b := range invalidBanks() {
		for _, list := range [][]int{nil, {0}, {1, 1}, {-1, -1}, {math.MinInt}, make([]int, 5), make([]int, 6)} {
			expectBank(t, b, list, 0, 0, api.ErrHeat)
			expectBank(t, b, list, -1, -1, api.ErrHeat)
			expectBank(t, b, list, math.MaxInt, math.MaxInt, api.ErrHeat)
		}
		is, e := heat.Dominant(b)
		expect(t, call("Dominant", b), is, e, false, api.ErrHeat)
		n, e := heat.Talk(b)
		expect(t, call("Talk", b), n, e, 0, api.ErrHeat)
		n, e = heat.Det(b)
		expect(t, call("Det", b), n, e, 0, api.ErrHeat)
		l, e := heat.Bound(b)
		expectList(t, call("Bound", b), l, e, nil, api.ErrHeat)
		rows, e := heat.Inverse(b)
		expectRows(t, call("Inverse", b), rows, e, nil, api.ErrHeat)
	}
}

// P6.1: ErrArg of each list, in front of ErrSingular and ErrLimit.
func TestInvalidLists(t *testing.T) {
	for n := 1; n <= 5; n++ {
		for _, b := range []api.Bank{filled(n, 0), filled(n, 200), diagonal(slices.Repeat([]int{-7}, n)...)} {
			fine := make([]int, n)
			for _, list := range notPhases(n) {
				l, e := heat.Phases(b, list, fine)
				expectList(t, call("Phases", b, list, fine), l, e, nil, api.ErrArg)
				q, e := heat.Solve(b, list)
				expectList(t, call("Solve", b, list), q, e, nil, api.ErrArg)
				l, e = heat.Off(b, list, fine)
				expectList(t, call("Off", b, list, fine), l, e, nil, api.ErrArg)
				l, e = heat.Cheapest(b, list, 1000000, 20)
				expectList(t, call("Cheapest", b, list), l, e, nil, api.ErrArg)
			}
			for _, list := range notPowers(n) {
				l, e := heat.Phases(b, fine, list)
				expectList(t, call("Phases", b, fine, list), l, e, nil, api.ErrArg)
				l, e = heat.Off(b, fine, list)
				expectList(t, call("Off", b, fine, list), l, e, nil, api.ErrArg)
				ends, e := heat.Spread(b, list, 1)
				expect(t, call("Spread", b, list, 1), ends, e, [2]int{}, api.ErrArg)
			}
		}
	}
}

// P6.2
func TestValid(t *testing.T) {
	for _, b := range invalidBanks() {
		if heat.Valid(b) {
			t.Errorf("%s", call("Valid", b))
		}
	}
	for _, b := range someBanks(1, 100) {
		if !heat.Valid(b) {
			t.Errorf("not %s", call("Valid", b))
		}
	}
}

// P6.2
func TestPhases(t *testing.T) {
	for _, c := range []struct {
		b                  api.Bank
		base, powers, want []int
	}{
		{example(), []int{0, 0}, []int{9, 8}, []int{980, 980}}, {example(), []int{-980, -981}, []int{9, 8}, []int{0, 999999}}, {example(), []int{1000000, -1000000}, []int{0, 0}, []int{0, 0}},
		{example(), []int{999999, -1}, []int{0, 0}, []int{999999, 999999}}, {gains([]int{-1}), []int{0}, []int{1}, []int{999999}}, {gains([]int{-1}), []int{-1000000}, []int{1}, []int{999999}},
		{gains([]int{200}), []int{1000000}, []int{1000}, []int{200000}}, {filled(5, 200), slices.Repeat([]int{1000000}, 5), slices.Repeat([]int{1000}, 5), make([]int, 5)},
		{filled(5, -200), slices.Repeat([]int{-1000000}, 5), slices.Repeat([]int{1000}, 5), make([]int, 5)}, {filled(5, -200), slices.Repeat([]int{-999999}, 5), slices.Repeat([]int{1000}, 5), slices.Repeat([]int{1}, 5)},
		{gains([]int{0, 1}, []int{0, 0}), []int{5, 6}, []int{10, 20}, []int{25, 6}},
	} {
		l, e := heat.Phases(c.b, c.base, c.powers)
		expectList(t, call("Phases", c.b, c.base, c.powers), l, e, c.want, api.OK)
	}
	r := random(2)
	for _, b := range someBanks(2, 500) {
		n := len(b.Gain)
		base, powers := anyPhases(r, n), anyPowers(r, n)
		l, e := heat.Phases(b, base, powers)
		want := turned(b, powers)
		for i := range want {
			for want[i] += base[i]; want[i] < 0; {
				want[i] += 1000000
			}
			want[i] %= 1000000
		}
		expectList(t, call("Phases", b, base, powers), l, e, want, api.OK)
	}
}

// P6.2
func TestDominantAndTalk(t *testing.T) {
	for _, c := range []struct {
		b        api.Bank
		dominant bool
		talk     int
	}{
		{example(), true, 20}, {gains([]int{0}), false, 0}, {gains([]int{1}), true, 0}, {gains([]int{-200}), true, 0}, {diagonal(1, -1, 1, -1, 1), true, 0}, {diagonal(1, -1, 0, -1, 1), false, 0},
		{gains([]int{2, 1}, []int{1, 1}), false, 1}, {gains([]int{1, 1}, []int{1, 2}), false, 1}, {gains([]int{-2, 1}, []int{-1, -2}), true, 1}, {gains([]int{1, 0}, []int{-200, 200}), false, 200},
		{gains([]int{3, 1, -1}, []int{-2, 5, -2}, []int{0, 0, 1}), true, 2}, {gains([]int{3, 2, -1}, []int{-2, 5, -2}, []int{0, 0, 1}), false, 2}, {gains([]int{3, 1, -1}, []int{-2, 5, -3}, []int{0, 0, 1}), false, 3},
		{gains([]int{200, 0}, []int{1, 200}), true, 1}, {gains([]int{200, -1}, []int{0, 200}), true, 1}, {gains([]int{0, 200}, []int{200, 0}), false, 200}, {filled(5, -200), false, 200},
	} {
		is, e := heat.Dominant(c.b)
		expect(t, call("Dominant", c.b), is, e, c.dominant, api.OK)
		n, e := heat.Talk(c.b)
		expect(t, call("Talk", c.b), n, e, c.talk, api.OK)
	}
	dominant := 0
	for _, b := range someBanks(3, 500) {
		want, talk := true, 0
		for i, row := range b.Gain {
			rest := 0
			for k, g := range row {
				if i != k {
					rest += abs(g)
					talk = max(talk, abs(g))
				}
			}
			want = want && abs(row[i]) > rest
		}
		is, e := heat.Dominant(b)
		expect(t, call("Dominant", b), is, e, want, api.OK)
		n, e := heat.Talk(b)
		expect(t, call("Talk", b), n, e, talk, api.OK)
		if is {
			dominant++
		}
	}
	if dominant < 2000 {
		t.Errorf("only %d banks are Dominant", dominant)
	}
}

// P6.4
func TestOffAndBound(t *testing.T) {
	for _, c := range []struct {
		b                        api.Bank
		want, powers, off, bound []int
	}{
		{example(), []int{1000, 1000}, []int{9, 8}, []int{-20, -20}, []int{110, 120}}, {example(), []int{0, 0}, []int{0, 0}, []int{0, 0}, []int{110, 120}}, {gains([]int{-5}), []int{7}, []int{3}, []int{-22}, []int{5}},
		{gains([]int{1, -2}, []int{0, 0}), []int{-1000000, 1000000}, []int{1000, 0}, []int{1001000, -1000000}, []int{3, 0}},
		{filled(5, 200), slices.Repeat([]int{-1000000}, 5), slices.Repeat([]int{1000}, 5), slices.Repeat([]int{2000000}, 5), slices.Repeat([]int{1000}, 5)},
		{filled(5, -200), slices.Repeat([]int{1000000}, 5), slices.Repeat([]int{1000}, 5), slices.Repeat([]int{-2000000}, 5), slices.Repeat([]int{1000}, 5)},
	} {
		l, e := heat.Off(c.b, c.want, c.powers)
		expectList(t, call("Off", c.b, c.want, c.powers), l, e, c.off, api.OK)
		l, e = heat.Bound(c.b)
		expectList(t, call("Bound", c.b), l, e, c.bound, api.OK)
	}
	r := random(4)
	for _, b := range someBanks(4, 500) {
		n := len(b.Gain)
		want, powers := anyPhases(r, n), anyPowers(r, n)
		l, e := heat.Off(b, want, powers)
		expectList(t, call("Off", b, want, powers), l, e, offBy(b, want, powers), api.OK)
		var bound []int
		for _, row := range b.Gain {
			sum := 0
			for _, g := range row {
				sum += abs(g)
			}
			bound = append(bound, sum)
		}
		l, e = heat.Bound(b)
		expectList(t, call("Bound", b), l, e, bound, api.OK)
	}
}

// P6.7
func TestSpread(t *testing.T) {
	for _, c := range []struct {
		b      api.Bank
		powers []int
		loss   int
		want   [2]int
		err    api.Errno
	}{
		{gains([]int{1}), []int{1}, 0, [2]int{1000, 1000}, api.OK}, {gains([]int{1}), []int{1}, 1, [2]int{999, 1001}, api.OK}, {gains([]int{1}), []int{1}, 1000, [2]int{0, 2000}, api.OK},
		{gains([]int{-1}), []int{1}, 1, [2]int{-1001, -999}, api.OK}, {gains([]int{-1}), []int{1}, 1000, [2]int{-2000, 0}, api.OK}, {gains([]int{0}), []int{1000}, 1000, [2]int{}, api.OK}, {gains([]int{200}), []int{0}, 1000, [2]int{}, api.OK},
		{example(), []int{9, 8}, 0, [2]int{1960000, 1960000}, api.OK}, {example(), []int{9, 8}, 100, [2]int{1764000, 2156000}, api.OK}, {example(), []int{9, 0}, 10, [2]int{1069200, 1090800}, api.OK},
		// One power turns all guides: what it does to one of them is taken back by another one.
		{gains([]int{5, 0}, []int{-5, 0}), []int{10, 10}, 500, [2]int{}, api.OK}, {gains([]int{5, 0}, []int{-4, 0}), []int{10, 10}, 500, [2]int{5000, 15000}, api.OK},
		// Each heater is off by itself.
		{gains([]int{5, -5}, []int{0, 0}), []int{10, 10}, 500, [2]int{-50000, 50000}, api.OK}, {gains([]int{5, -3}, []int{0, 0}), []int{10, 10}, 100, [2]int{12000, 28000}, api.OK},
		{filled(5, 200), slices.Repeat([]int{1000}, 5), 1000, [2]int{0, 10000000000}, api.OK}, {filled(5, -200), slices.Repeat([]int{1000}, 5), 1000, [2]int{-10000000000, 0}, api.OK},
		{example(), []int{1, 1}, -1, [2]int{}, api.ErrArg}, {example(), []int{1, 1}, 1001, [2]int{}, api.ErrArg}, {example(), []int{1, 1}, math.MinInt, [2]int{}, api.ErrArg}, {example(), []int{1, 1}, math.MaxInt, [2]int{}, api.ErrArg},
		{example(), []int{1, 1001}, 1, [2]int{}, api.ErrArg}, {example(), []int{1}, 1, [2]int{}, api.ErrArg}, {example(), []int{1, 1, 1}, 1, [2]int{}, api.ErrArg}, {example(), []int{-1, 1}, 1, [2]int{}, api.ErrArg},
	} {
		ends, e := heat.Spread(c.b, c.powers, c.loss)
		expect(t, call("Spread", c.b, c.powers, c.loss), ends, e, c.want, c.err)
	}
}

// P6.7: the least and the greatest of the sums of all combinations of drivers at their ends.
func TestSpreadOfAllEnds(t *testing.T) {
	r := random(5)
	for _, b := range someBanks(5, 300) {
		n := len(b.Gain)
		powers, loss := anyPowers(r, n), anyList(r, 1, 0, 1000)[0]
		want := [2]int{math.MaxInt, math.MinInt}
		for ends := range 1 << n {
			thousandths := make([]int, n)
			for k, p := range powers {
				thousandths[k] = p * (1000 - loss + 2*loss*(ends>>k&1))
			}
			sum := total(turned(b, thousandths))
			want = [2]int{min(want[0], sum), max(want[1], sum)}
		}
		ends, e := heat.Spread(b, powers, loss)
		expect(t, call("Spread", b, powers, loss), ends, e, want, api.OK)
	}
}
