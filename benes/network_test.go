package benes_test

import (
	"math"
	"slices"
	"testing"

	"photonmesh/api"
	"photonmesh/benes"
)

// The document's first example, P8.1 and P8.2: the sizes of all networks, and of none.
func TestCount(t *testing.T) {
	for _, c := range []struct{ n, count, depth int }{{2, 1, 1}, {4, 6, 3}, {8, 20, 5}, {16, 56, 7}} {
		count, e := benes.Count(c.n)
		expect(t, call("Count", c.n), count, e, c.count, api.OK)
		depth, e := benes.Depth(c.n)
		expect(t, call("Depth", c.n), depth, e, c.depth, api.OK)
	}
	for _, n := range notPorts {
		count, e := benes.Count(n)
		expect(t, call("Count", n), count, e, 0, api.ErrArg)
		depth, e := benes.Depth(n)
		expect(t, call("Depth", n), depth, e, 0, api.ErrArg)
	}
}

// The document's second example, and P8.2: followed by hand.
func TestThrough(t *testing.T) {
	for _, c := range []struct {
		n        int
		settings []bool
		want     []int
	}{
		{2, bits("0"), []int{0, 1}}, {2, bits("1"), []int{1, 0}},
		// First ones, last ones, the upper network, the lower one.
		{4, bits("00 00 0 0"), []int{0, 1, 2, 3}},
		{4, bits("10 00 0 0"), []int{1, 0, 2, 3}}, {4, bits("01 00 0 0"), []int{0, 1, 3, 2}},
		{4, bits("00 10 0 0"), []int{1, 0, 2, 3}}, {4, bits("00 01 0 0"), []int{0, 1, 3, 2}},
		{4, bits("00 00 1 0"), []int{2, 1, 0, 3}}, {4, bits("00 00 0 1"), []int{0, 3, 2, 1}},
		{4, bits("10 00 1 0"), []int{1, 2, 0, 3}}, {4, bits("00 10 1 0"), []int{2, 0, 1, 3}},
		{4, bits("11 11 1 1"), []int{2, 3, 0, 1}}, {4, bits("11 11 0 0"), []int{0, 1, 2, 3}},
		{8, turning(8), identity(8)},
		{8, turning(8, 1), []int{0, 1, 3, 2, 4, 5, 6, 7}}, {8, turning(8, 7), []int{0, 1, 2, 3, 4, 5, 7, 6}},
		// The upper network's first, last, upper and lower switches, and the lower network's.
		{8, turning(8, 8), []int{2, 1, 0, 3, 4, 5, 6, 7}}, {8, turning(8, 11), []int{0, 1, 2, 3, 6, 5, 4, 7}},
		{8, turning(8, 12), []int{4, 1, 2, 3, 0, 5, 6, 7}}, {8, turning(8, 13), []int{0, 1, 6, 3, 4, 5, 2, 7}},
		{8, turning(8, 14), []int{0, 3, 2, 1, 4, 5, 6, 7}}, {8, turning(8, 19), []int{0, 1, 2, 7, 4, 5, 6, 3}},
		{8, turning(8, 0, 8, 12), []int{1, 2, 4, 3, 0, 5, 6, 7}},
		// The first switch of the lower network exchanges what comes from 1 and 3.
		{16, turning(16, 36, 7), []int{0, 3, 2, 1, 4, 5, 6, 7, 8, 9, 10, 11, 12, 13, 15, 14}},
	} {
		perm, e := benes.Through(c.n, c.settings)
		expectList(t, call("Through", c.n, c.settings), perm, e, c.want, api.OK)
	}
}

// P8.2: all settings of small networks and many of large ones, by the document's words.
func TestThroughBySending(t *testing.T) {
	r := random(1)
	for _, n := range ports {
		for _, settings := range someSettings(r, n, 500) {
			want := made(n, settings)
			perm, e := benes.Through(n, settings)
			expectList(t, call("Through", n, settings), perm, e, want, api.OK)
			sends, e := benes.Sends(want, settings)
			expect(t, call("Sends", want, settings), sends, e, true, api.OK)
			for i := range n {
				other := slices.Clone(want)
				k := (i + 1 + r.Intn(n-1)) % n
				other[i], other[k] = other[k], other[i]
				sends, e := benes.Sends(other, settings)
				expect(t, call("Sends", other, settings), sends, e, false, api.OK)
			}
		}
	}
}

// P8.2: all permutations and all settings of small networks.
func TestSends(t *testing.T) {
	for _, n := range []int{2, 4} {
		for _, settings := range someSettings(nil, n, 0) {
			want := made(n, settings)
			for _, perm := range allPermutations(n) {
				sends, e := benes.Sends(perm, settings)
				expect(t, call("Sends", perm, settings), sends, e, slices.Equal(perm, want), api.OK)
			}
		}
	}
}

// P8.5: written out, and by the document's words for every network within a network.
func TestMirror(t *testing.T) {
	for _, c := range []struct {
		n              int
		settings, want []bool
	}{
		{2, bits("0"), bits("0")}, {2, bits("1"), bits("1")},
		{4, bits("10 00 1 0"), bits("00 10 1 0")}, {4, bits("01 11 0 1"), bits("11 01 0 1")},
		{8, bits("1000 0110  10 01 1 0  11 00 0 1"), bits("0110 1000  01 10 1 0  00 11 0 1")},
		{16, bits("10000000 01000001  1000 0110 10 01 1 0 11 00 0 1  0001 1110 01 11 0 0 00 10 1 1"), bits("01000001 10000000  0110 1000 01 10 1 0 00 11 0 1  1110 0001 11 01 0 0 10 00 1 1")},
	} {
		settings, e := benes.Mirror(c.n, c.settings)
		expectList(t, call("Mirror", c.n, c.settings), settings, e, c.want, api.OK)
	}
}

// P8.8: Mirror undoes itself, and makes the inverse permutation.
func TestMirrors(t *testing.T) {
	r := random(2)
	for _, n := range ports {
		for _, settings := range someSettings(r, n, 500) {
			mirrored, e := benes.Mirror(n, settings)
			expectList(t, call("made by Mirror", n, settings), made(n, mirrored), e, inverse(made(n, settings)), api.OK)
			again, e := benes.Mirror(n, mirrored)
			expectList(t, call("Mirror", n, mirrored), again, e, settings, api.OK)
		}
	}
}

// P8.5
func TestTurned(t *testing.T) {
	for _, n := range ports {
		for most := range sizes[n] + 1 {
			settings := turning(n)
			for s := range most {
				settings[s] = true
			}
			turned, e := benes.Turned(n, settings)
			expect(t, call("Turned", n, settings), turned, e, most, api.OK)
			slices.Reverse(settings)
			turned, e = benes.Turned(n, settings)
			expect(t, call("Turned", n, settings), turned, e, most, api.OK)
		}
	}
}

// P8.5: followed by hand.
func TestTrace(t *testing.T) {
	for _, c := range []struct {
		n        int
		settings []bool
		input    int
		want     []int
	}{
		{2, bits("0"), 0, []int{0}}, {2, bits("1"), 1, []int{0}},
		{4, bits("00 00 0 0"), 0, []int{0, 4, 2}}, {4, bits("00 00 0 0"), 1, []int{0, 5, 2}}, {4, bits("00 00 0 0"), 2, []int{1, 4, 3}}, {4, bits("00 00 0 0"), 3, []int{1, 5, 3}},
		{4, bits("10 00 0 0"), 0, []int{0, 5, 2}}, {4, bits("10 00 1 0"), 1, []int{0, 4, 3}}, {4, bits("00 11 0 1"), 3, []int{1, 5, 2}},
		{8, turning(8), 0, []int{0, 8, 12, 10, 4}}, {8, turning(8), 7, []int{3, 15, 19, 17, 7}}, {8, turning(8), 2, []int{1, 8, 13, 10, 5}},
		{8, turning(8, 3, 9), 7, []int{3, 9, 12, 11, 6}}, {8, turning(8, 3, 9, 12), 7, []int{3, 9, 12, 10, 4}},
		{16, turning(16), 0, []int{0, 16, 24, 28, 26, 20, 8}}, {16, turning(16), 15, []int{7, 39, 51, 55, 53, 43, 15}},
	} {
		met, e := benes.Trace(c.n, c.settings, c.input)
		expectList(t, call("Trace", c.n, c.settings, c.input), met, e, c.want, api.OK)
	}
}

// stages returns for each switch the place at which light meets it, by the order of the settings.
func stages(n int) []int {
	if n == 2 {
		return []int{0}
	}
	inner := stages(n / 2)
	last := 0
	for k := range inner {
		inner[k]++
		last = max(last, inner[k]+1)
	}
	outer := append(make([]int, n/2), slices.Repeat([]int{last}, n/2)...)
	return slices.Concat(outer, inner, inner)
}

// P8.5 and P8.9: a switch that is turned the other way changes where the light
// comes out of just the two inputs whose light meets it.
func TestTraces(t *testing.T) {
	r := random(3)
	for _, n := range ports {
		order := stages(n)
		depth, _ := benes.Depth(n)
		for _, settings := range someSettings(r, n, 60) {
			perm := made(n, settings)
			met := make([][]int, n)
			for s := range settings {
				other := slices.Clone(settings)
				other[s] = !other[s]
				changed, by := made(n, other), 0
				for input := range perm {
					if perm[input] != changed[input] {
						met[input] = append(met[input], s)
						by++
					}
				}
				if by != 2 {
					t.Errorf("%d, %v: light of %d inputs meets switch %d", n, settings, by, s)
				}
			}
			for input, want := range met {
				slices.SortFunc(want, func(a, b int) int { return order[a] - order[b] })
				trace, e := benes.Trace(n, settings, input)
				expectList(t, call("Trace", n, settings, input), trace, e, want, api.OK)
				expect(t, call("len of Trace", n, settings, input), len(trace), e, depth, api.OK)
			}
		}
	}
}

// P8.5
func TestChanged(t *testing.T) {
	long := make([]bool, 1000)
	other := slices.Clone(long)
	other[0], other[500], other[999] = true, true, true
	for _, c := range []struct {
		a, b []bool
		want []int
		err  api.Errno
	}{
		{nil, nil, nil, api.OK}, {nil, []bool{}, nil, api.OK}, {bits("1"), bits("1"), nil, api.OK}, {bits("1"), bits("0"), []int{0}, api.OK}, {bits("0"), bits("1"), []int{0}, api.OK},
		{bits("0110100"), bits("1100101"), []int{0, 2, 6}, api.OK}, {bits("000"), bits("111"), []int{0, 1, 2}, api.OK},
		{long, other, []int{0, 500, 999}, api.OK}, {other, long, []int{0, 500, 999}, api.OK}, {long, opposite(long), identity(1000), api.OK},
		{bits("0"), nil, nil, api.ErrArg}, {nil, bits("0"), nil, api.ErrArg}, {bits("01"), bits("010"), nil, api.ErrArg}, {bits("1011"), bits("101"), nil, api.ErrArg}, {long, long[1:], nil, api.ErrArg},
		{make([]bool, 1001), make([]bool, 1001), nil, api.ErrArg}, {make([]bool, 100000), opposite(make([]bool, 100000)), nil, api.ErrArg}, {long, make([]bool, 1001), nil, api.ErrArg}, {make([]bool, 1001), long, nil, api.ErrArg},
	} {
		l, e := benes.Changed(c.a, c.b)
		expectList(t, call("Changed", c.a, c.b), l, e, c.want, c.err)
	}
}

// expectNetwork checks the error of every function that takes n and settings.
func expectNetwork(t *testing.T, n int, settings []bool, input int, want api.Errno) {
	t.Helper()
	perm, e := benes.Through(n, settings)
	expectList(t, call("Through", n, settings), perm, e, nil, want)
	mirrored, e := benes.Mirror(n, settings)
	expectList(t, call("Mirror", n, settings), mirrored, e, nil, want)
	turned, e := benes.Turned(n, settings)
	expect(t, call("Turned", n, settings), turned, e, 0, want)
	trace, e := benes.Trace(n, settings, input)
	expectList(t, call("Trace", n, settings, input), trace, e, nil, want)
}

// P8.1: n comes first, then the settings, and then the input of Trace.
func TestNetworkErrors(t *testing.T) {
	for _, n := range notPorts {
		for _, count := range []int{0, 1, 6, 20, 56, 1000} {
			settings := slices.Repeat([]bool{true}, count)
			expectNetwork(t, n, settings, 0, api.ErrArg)
			expectNetwork(t, n, settings, n, api.ErrArg)
		}
	}
	for _, n := range ports {
		for _, count := range notSwitches(n) {
			settings := slices.Repeat([]bool{true}, count)
			expectNetwork(t, n, settings, 0, api.ErrNetwork)
			expectNetwork(t, n, settings, -1, api.ErrNetwork)
			sends, e := benes.Sends(identity(n), settings)
			expect(t, call("Sends", identity(n), settings), sends, e, false, api.ErrNetwork)
		}
		for _, input := range []int{-1, n, n + 1, -n, math.MinInt, math.MaxInt} {
			trace, e := benes.Trace(n, turning(n), input)
			expectList(t, call("Trace", n, input), trace, e, nil, api.ErrArg)
		}
	}
	for _, perm := range notPermutations() {
		for _, count := range []int{sizes[len(perm)], 0, 7} {
			sends, e := benes.Sends(perm, make([]bool, count))
			expect(t, call("Sends", perm, count), sends, e, false, api.ErrPerm)
		}
	}
}

// R4: lists are neither changed nor kept, and results are new memory.
func TestSettingsAreTheCallers(t *testing.T) {
	r := random(4)
	for _, n := range ports {
		for _, settings := range someSettings(r, n, 20) {
			before := slices.Clone(settings)
			perm, _ := benes.Through(n, settings)
			want := slices.Clone(perm)
			trace, _ := benes.Trace(n, settings, n-1)
			trace[0] = -1
			perm[0] = -1
			again, e := benes.Through(n, settings)
			expectList(t, call("Through", n, settings), again, e, want, api.OK)
			_, _ = benes.Sends(want, settings)
			_, _ = benes.Turned(n, settings)
			_, _ = benes.Changed(settings, before)
			mirrored, _ := benes.Mirror(n, settings)
			for s := range mirrored {
				mirrored[s] = !mirrored[s]
			}
			if !slices.Equal(settings, before) {
				t.Errorf("%d: settings %v have become %v", n, before, settings)
			}
			if !slices.Equal(want, made(n, settings)) {
				t.Errorf("%d, %v: the permutation has become %v", n, settings, want)
			}
		}
	}
}
