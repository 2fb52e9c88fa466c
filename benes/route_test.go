package benes_test

import (
	"slices"
	"testing"

	"photonmesh/api"
	"photonmesh/benes"
)

// P8.3 and P8.6: all permutations of up to 8, and many of 16.
func TestSettings(t *testing.T) {
	r := random(11)
	for _, n := range ports {
		l := somePermutations(r, n, 3000)
		if n == 8 {
			l = allPermutations(n)
		}
		for _, perm := range l {
			settings, e := benes.Settings(perm)
			if e != api.OK || len(settings) != sizes[n] || !slices.Equal(made(n, settings), perm) {
				t.Fatalf("%s = %v, %d", call("Settings", perm), settings, e)
			}
		}
	}
}

// expectAround checks Around and Ways of a permutation against how many settings there are.
func expectAround(t *testing.T, perm, stuck []int, ways int) {
	t.Helper()
	got, e := benes.Ways(perm, stuck)
	expect(t, call("Ways", perm, stuck), got, e, ways, api.OK)
	settings, e := benes.Around(perm, stuck)
	switch {
	case ways == 0:
		expectList(t, call("Around", perm, stuck), settings, e, nil, api.ErrNone)
	case e != api.OK || len(settings) != len(stuck) || !agrees(settings, stuck) || !slices.Equal(made(len(perm), settings), perm):
		t.Errorf("%s = %v, %d", call("Around", perm, stuck), settings, e)
	}
}

// The document's third example, P8.3, P8.4 and P8.7: all permutations and all stuck
// switches of small networks, by trying all settings.
func TestWays(t *testing.T) {
	expectAround(t, []int{1, 0}, []int{1}, 0)
	expectAround(t, []int{1, 0}, []int{2}, 1)
	expectAround(t, []int{0, 1, 2, 3}, make([]int, 6), 4)
	for _, n := range []int{2, 4} {
		perms := allPermutations(n)
		for _, stuck := range allStuck(n) {
			times := tally(n, stuck)
			for _, perm := range perms {
				expectAround(t, perm, stuck, times[name(perm)])
			}
			lost, e := benes.Lost(n, stuck)
			expect(t, call("Lost", n, stuck), lost, e, len(perms)-len(times), api.OK)
		}
	}
}

// P8.4: written out.
func TestLost(t *testing.T) {
	for _, c := range []struct {
		n     int
		stuck []int
		want  int
	}{
		{2, []int{0}, 0}, {2, []int{1}, 1}, {2, []int{2}, 1}, {4, make([]int, 6), 0}, {4, []int{1, 1, 1, 1, 1, 1}, 23}, {4, []int{2, 1, 2, 1, 2, 1}, 23},
		// One outer switch is not needed; without the inner ones only neighbours are exchanged.
		{4, []int{1, 0, 0, 0, 0, 0}, 0}, {4, []int{0, 0, 0, 2, 0, 0}, 0}, {4, []int{0, 0, 0, 0, 1, 1}, 20},
	} {
		lost, e := benes.Lost(c.n, c.stuck)
		expect(t, call("Lost", c.n, c.stuck), lost, e, c.want, api.OK)
	}
}

// P8.3, P8.4 and P8.7: large networks in which most switches are stuck, by trying all settings that are left.
func TestWaysOfLargeNetworks(t *testing.T) {
	r := random(12)
	found := map[int]int{}
	for _, n := range []int{8, 16} {
		for range 60 {
			stuck := anyStuck(r, n, r.Intn(12))
			times := tally(n, stuck)
			perms := somePermutations(r, n, 30)
			settings := turning(n)
			for range 40 {
				for s, kind := range stuck {
					settings[s] = kind == 2 || kind == 0 && r.Intn(2) == 0
				}
				perms = append(perms, made(n, settings))
			}
			for _, perm := range perms {
				ways := times[name(perm)]
				expectAround(t, perm, stuck, ways)
				found[ways]++
			}
		}
	}
	if found[0] < 1000 || found[1] < 1000 || found[2] < 100 || found[4] < 20 {
		t.Errorf("permutations by their ways: %v", found)
	}
}

// P8.7: of each network whose permutations can be tried.
func TestWaysAddUp(t *testing.T) {
	for _, n := range []int{2, 4, 8} {
		total := 0
		for _, perm := range allPermutations(n) {
			ways := counted(t, perm, make([]int, sizes[n]))
			if ways < 1 || n > 2 && ways%2 != 0 {
				t.Errorf("%s = %d", call("Ways", perm), ways)
			}
			total += ways
		}
		expect(t, call("the sum of Ways of all permutations of", n), total, api.OK, 1<<sizes[n], api.OK)
	}
}

// P8.7: without stuck switches, a number of 2^24 for the identity of 16: each of 8
// loops has 2 choices, in each half each of 4, and in each quarter each of 2.
func TestWaysOfIdentities(t *testing.T) {
	for n, want := range map[int]int{2: 1, 4: 1 << 2, 8: 1 << 8, 16: 1 << 24} {
		expect(t, call("Ways of the identity of", n), counted(t, identity(n), make([]int, sizes[n])), api.OK, want, api.OK)
	}
}

// P8.7: a switch that works, stuck in both ways.
func TestWaysOfOneMoreStuck(t *testing.T) {
	r := random(13)
	for _, n := range ports {
		for range 40 {
			perm := r.Perm(n)
			stuck := make([]int, sizes[n])
			for _, s := range r.Perm(len(stuck)) {
				ways := counted(t, perm, stuck)
				expectFound(t, perm, stuck, ways)
				stuck[s] = 1
				never := counted(t, perm, stuck)
				stuck[s] = 2
				always := counted(t, perm, stuck)
				if never+always != ways || never < 0 || always < 0 {
					t.Errorf("%v, %v: Ways with switch %d stuck are %d and %d, of %d", perm, stuck, s, never, always, ways)
				}
				// More often than not the way on is one that there is.
				if always == 0 && r.Intn(8) > 0 {
					stuck[s] = 1
				}
			}
		}
	}
}

// expectFound checks that Around finds settings exactly if there are ways.
func expectFound(t *testing.T, perm, stuck []int, ways int) {
	t.Helper()
	settings, e := benes.Around(perm, stuck)
	if (ways == 0) != (e == api.ErrNone) || e == api.OK && (!agrees(settings, stuck) || !slices.Equal(made(len(perm), settings), perm)) {
		t.Errorf("%s = %v, %d, with %d ways", call("Around", perm, stuck), settings, e, ways)
	}
}

// P8.3 and P8.8: stuck switches that leave only the settings that a permutation was
// made by, and their mirrors.
func TestAroundWithAllStuck(t *testing.T) {
	r := random(14)
	for _, n := range ports {
		for _, settings := range someSettings(r, n, 100) {
			stuck := make([]int, len(settings))
			for s, turned := range settings {
				stuck[s] = 1
				if turned {
					stuck[s] = 2
				}
			}
			perm := made(n, settings)
			got, e := benes.Around(perm, stuck)
			expectList(t, call("Around", perm, stuck), got, e, settings, api.OK)
			other := slices.Clone(perm)
			other[0], other[n-1] = other[n-1], other[0]
			got, e = benes.Around(other, stuck)
			expectList(t, call("Around", other, stuck), got, e, nil, api.ErrNone)
		}
	}
}

// expectStuck checks the error of the functions that take a permutation and stuck switches.
func expectStuck(t *testing.T, perm, stuck []int, want api.Errno) {
	t.Helper()
	ways, e := benes.Ways(perm, stuck)
	expect(t, call("Ways", perm, stuck), ways, e, 0, want)
	settings, e := benes.Around(perm, stuck)
	expectList(t, call("Around", perm, stuck), settings, e, nil, want)
}

// P8.1: the permutation comes first, or n does; then the stuck switches; then the limit of Lost.
func TestStuckErrors(t *testing.T) {
	for _, perm := range notPermutations() {
		expectStuck(t, perm, nil, api.ErrPerm)
		expectStuck(t, perm, make([]int, sizes[len(perm)]), api.ErrPerm)
		expectStuck(t, perm, []int{3, -1}, api.ErrPerm)
		settings, e := benes.Settings(perm)
		expectList(t, call("Settings", perm), settings, e, nil, api.ErrPerm)
	}
	for _, n := range ports {
		for _, stuck := range notStuck(n) {
			expectStuck(t, identity(n), stuck, api.ErrNetwork)
			lost, e := benes.Lost(n, stuck)
			expect(t, call("Lost", n, stuck), lost, e, 0, api.ErrNetwork)
		}
	}
	for _, n := range notPorts {
		for _, stuck := range [][]int{nil, {0}, {3}, make([]int, 6), make([]int, 20)} {
			lost, e := benes.Lost(n, stuck)
			expect(t, call("Lost", n, stuck), lost, e, 0, api.ErrArg)
		}
	}
	for _, n := range []int{8, 16} {
		for kind := range 3 {
			lost, e := benes.Lost(n, slices.Repeat([]int{kind}, sizes[n]))
			expect(t, call("Lost", n, kind), lost, e, 0, api.ErrLimit)
		}
	}
}

// R4: lists are neither changed nor kept, and results are new memory.
func TestListsAreTheCallers(t *testing.T) {
	r := random(15)
	for _, n := range ports {
		for range 50 {
			perm, stuck := r.Perm(n), anyStuck(r, n, sizes[n]*3/4)
			perm2, stuck2 := slices.Clone(perm), slices.Clone(stuck)
			settings, _ := benes.Settings(perm)
			want := slices.Clone(settings)
			for s := range settings {
				settings[s] = !settings[s]
			}
			again, e := benes.Settings(perm)
			expectList(t, call("Settings", perm), again, e, want, api.OK)
			_, _ = benes.Around(perm, stuck)
			_, _ = benes.Ways(perm, stuck)
			_, _ = benes.Lost(n, stuck)
			_, _ = benes.Sends(perm, again)
			if !slices.Equal(perm, perm2) || !slices.Equal(stuck, stuck2) {
				t.Errorf("%v and %v have become %v and %v", perm2, stuck2, perm, stuck)
			}
		}
	}
}
