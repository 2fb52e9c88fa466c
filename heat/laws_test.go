package heat_test

import (
	"math/big"
	"slices"
	"testing"

	"photonmesh/api"
	"photonmesh/heat"
)

// P6.8
func TestSolutions(t *testing.T) {
	r := random(31)
	for _, b := range someBanks(31, 200) {
		n := len(b.Gain)
		want := anyPhases(r, n)
		det := determinant(t, b)
		q, e := heat.Solve(b, want)
		if (det == 0) != (e == api.ErrSingular) || det != 0 && e != api.OK {
			t.Errorf("%s = %v, %d, with a Det of %d", call("Solve", b, want), q, e, det)
		}
		for i := range q {
			sum := new(big.Rat)
			for k, g := range b.Gain[i] {
				sum.Add(sum, new(big.Rat).Mul(big.NewRat(int64(g), 1), fraction(q[k])))
			}
			if sum.Cmp(big.NewRat(int64(want[i]), 1)) != 0 {
				t.Errorf("%s = %v does not solve row %d", call("Solve", b, want), q, i)
			}
		}
		if is, _ := heat.Dominant(b); is && det == 0 {
			t.Errorf("%v is Dominant, with a Det of 0", b)
		}
	}
}

// P6.8: the inverse from the left; every ratio is in lowest terms.
func TestIdentity(t *testing.T) {
	for _, b := range someBanks(32, 100) {
		rows, e := heat.Inverse(b)
		if (e == api.ErrSingular) != (determinant(t, b) == 0) {
			t.Errorf("%s: error %d", call("Inverse", b), e)
		}
		for i, row := range rows {
			for k := range row {
				sum := new(big.Rat)
				for j, q := range row {
					sum.Add(sum, new(big.Rat).Mul(fraction(q), big.NewRat(int64(b.Gain[j][k]), 1)))
				}
				want := int64(0)
				if i == k {
					want = 1
				}
				if sum.Cmp(big.NewRat(want, 1)) != 0 {
					t.Errorf("%s: row %d and column %d make %v", call("Inverse", b), i, k, sum)
				}
				if row[k] != ratioOf(fraction(row[k])) {
					t.Errorf("%s: %v is not in lowest terms", call("Inverse", b), row[k])
				}
			}
		}
	}
}

// P6.8
func TestExchangedRows(t *testing.T) {
	r := random(33)
	for _, b := range someBanks(33, 200) {
		n := len(b.Gain)
		i, k := r.Intn(n), r.Intn(n)
		other := api.Bank{Gain: slices.Clone(b.Gain)}
		other.Gain[i], other.Gain[k] = b.Gain[k], b.Gain[i]
		want := -determinant(t, b)
		if i == k {
			want = -want
		}
		det, e := heat.Det(other)
		expect(t, call("Det", other), det, e, want, api.OK)
	}
}

// P6.9
func TestRounding(t *testing.T) {
	r := random(34)
	rounded := 0
	for range 5000 {
		n := between(r, 1, 5)
		b := anyDominant(r, n)
		want := turned(b, anyPowers(r, n))
		for i := range want {
			want[i] += between(r, -100, 100)
		}
		q, e := heat.Solve(b, want)
		if e != api.OK {
			t.Fatalf("%s: error %d", call("Solve", b, want), e)
		}
		powers, e := heat.Round(q)
		if e != api.OK {
			continue
		}
		rounded++
		off, e := heat.Off(b, want, powers)
		bound, e2 := heat.Bound(b)
		if e != api.OK || e2 != api.OK {
			t.Fatalf("Off, Bound: errors %d, %d", e, e2)
		}
		for i := range off {
			if 2*abs(off[i]) > bound[i] {
				t.Errorf("%s = %v, Bound %v", call("Off", b, want, powers), off, bound)
			}
		}
	}
	if rounded < 1000 {
		t.Errorf("only %d solutions are rounded", rounded)
	}
}

// P6.10
func TestMorePower(t *testing.T) {
	r := random(35)
	modulo := func(x int) int { return (x%1000000 + 1000000) % 1000000 }
	for _, b := range someBanks(35, 200) {
		n := len(b.Gain)
		base, powers := anyPhases(r, n), anyList(r, n, 0, 999)
		less, e := heat.Phases(b, base, powers)
		k := r.Intn(n)
		powers[k]++
		more, e2 := heat.Phases(b, base, powers)
		none, e3 := heat.Phases(b, base, make([]int, n))
		if e != api.OK || e2 != api.OK || e3 != api.OK {
			t.Fatalf("Phases: errors %d, %d, %d", e, e2, e3)
		}
		for i := range n {
			if more[i] != modulo(less[i]+b.Gain[i][k]) || none[i] != modulo(base[i]) {
				t.Errorf("%s = %v, with less power at %d %v, without power %v", call("Phases", b, base, powers), more, k, less, none)
			}
		}
	}
}

// P6.11
func TestStepsLead(t *testing.T) {
	r := random(36)
	for range 3000 {
		n := between(r, 1, 5)
		from, to := anyPowers(r, n), anyPowers(r, n)
		if r.Intn(3) == 0 {
			to[r.Intn(n)] = from[r.Intn(n)]
		}
		greater := max(total(from), total(to))
		steps, e := heat.Steps(from, to, between(r, greater, 5000))
		if e != api.OK {
			t.Fatalf("%s: error %d", call("Steps", from, to), e)
		}
		peak, e := heat.Peak(from, steps)
		expect(t, call("Peak", from, steps), peak, e, greater, api.OK)
		now := slices.Clone(from)
		for _, s := range steps {
			if now[s[0]] == s[1] {
				t.Errorf("%s = %v: %v changes nothing", call("Steps", from, to), steps, s)
			}
			now[s[0]] = s[1]
		}
		expectList(t, call("Steps", from, to), now, api.OK, to, api.OK)
		if greater > 0 {
			steps, e = heat.Steps(from, to, greater-1)
			expectList(t, call("Steps", from, to, greater-1), steps, e, nil, api.ErrBudget)
		}
	}
}

// P6.11
func TestCheaper(t *testing.T) {
	r := random(37)
	found := 0
	for range 300 {
		n := between(r, 1, 3)
		b := anyBank(r, n)
		want := turned(b, anyList(r, n, 0, 15))
		slack, top := between(r, 0, 100), between(r, 5, 20)
		less, e := heat.Cheapest(b, want, slack, top)
		if e != api.OK {
			continue
		}
		found++
		for _, c := range [][2]int{{slack + between(r, 0, 200), top}, {slack, between(r, top, 20)}, {1000000, 20}} {
			more, e := heat.Cheapest(b, want, c[0], c[1])
			if e != api.OK || total(more) > total(less) {
				t.Errorf("%s = %v, %d; with %v %v", call("Cheapest", b, want, c[0], c[1]), more, e, [2]int{slack, top}, less)
			}
		}
	}
	if found < 100 {
		t.Errorf("only %d banks have a Cheapest", found)
	}
}
