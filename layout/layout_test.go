package layout_test

import (
	"math"
	"slices"
	"testing"

	"photonmesh/api"
	"photonmesh/layout"
)

// expectPath reports calls with one path that do not all have this error.
func expectPath(t *testing.T, g api.Grid, path []api.XY, err api.Errno) {
	t.Helper()
	if e := layout.Check(g, path); e != err {
		t.Errorf("%s = %d; want %d", call("Check", g, path), e, err)
	}
	steps, bends, cost, e := layout.Cost(g, path)
	expect(t, call("Cost", g, path), [3]int{steps, bends, cost}, e, [3]int{}, err)
	for _, more := range []int{0, 1, -2, 2, 202, math.MinInt} {
		l, e := layout.Detour(g, path, more)
		expectList(t, call("Detour", g, path, more), l, e, nil, err)
	}
}

// expectPaths reports calls with several paths that do not all have this error.
func expectPaths(t *testing.T, g api.Grid, paths [][]api.XY, err api.Errno) {
	t.Helper()
	l, e := layout.Together(g, paths)
	expectList(t, call("Together", g, paths), l, e, nil, err)
	times, e := layout.Crossed(g, paths)
	expectList(t, call("Crossed", g, paths), times, e, nil, err)
	missing, e := layout.Match(g, paths)
	expectList(t, call("Match", g, paths), missing, e, nil, err)
}

// P7.1: ErrGrid comes in front of all other errors.
func TestInvalidGridsComeFirst(t *testing.T) {
	fine := line(0, 0, 1, 0)
	for _, g := range invalidGrids() {
		for _, path := range [][]api.XY{nil, fine, line(0, 0, 0, 0), line(-1, 0), make([]api.XY, 1001)} {
			expectPath(t, g, path, api.ErrGrid)
			expectPaths(t, g, [][]api.XY{path}, api.ErrGrid)
			expectPaths(t, g, slices.Repeat([][]api.XY{path}, 13), api.ErrGrid)
		}
		expectPaths(t, g, nil, api.ErrGrid)
		for _, c := range []api.XY{at(0, 0), at(-1, 0), at(math.MaxInt, 0)} {
			far, e := layout.Far(g, c)
			expectList(t, call("Far", g, c), far, e, nil, api.ErrGrid)
			path, cost, e := layout.Route(g, c, at(0, 0))
			expectList(t, call("Route", g, c), path, e, nil, api.ErrGrid)
			expect(t, call("Route", g, c), cost, e, 0, api.ErrGrid)
			for _, numbers := range [][]int{nil, {0}, make([]int, 9), make([]int, 12)} {
				is, e := layout.IsProof(g, c, numbers)
				expect(t, call("IsProof", g, c, numbers), is, e, false, api.ErrGrid)
			}
			place, is, e := layout.Rim(g, c)
			expect(t, call("Rim", g, c), place, e, 0, api.ErrGrid)
			expect(t, call("Rim", g, c), is, e, false, api.ErrGrid)
			must, e := layout.Must(g, c, at(1, 0), at(0, 1), at(2, 0))
			expect(t, call("Must", g, c), must, e, false, api.ErrGrid)
		}
	}
}

// P7.1: ErrPath comes in front of ErrBlock of the same path.
func TestInvalidPaths(t *testing.T) {
	for _, g := range []api.Grid{grid(4, 3, 10, 5), grid(1, 1, 1, 0), grid(30, 30, 1000, 1000), grid(3, 3, 1, 0, cellsOf(grid(3, 3, 1, 0))...)} {
		for _, path := range notPaths() {
			expectPath(t, g, path, api.ErrPath)
			expectPaths(t, g, [][]api.XY{path}, api.ErrPath)
		}
		for _, path := range leaving(g.W, g.H) {
			expectPath(t, g, path, api.ErrBlock)
			expectPaths(t, g, [][]api.XY{path}, api.ErrBlock)
			// Both errors in one path: that it is no path counts.
			twice := append(slices.Clone(path), path[0])
			expectPath(t, g, twice, api.ErrPath)
		}
	}
	g := grid(4, 3, 10, 5, at(2, 1), at(0, 0), at(2, 1))
	for _, path := range [][]api.XY{line(2, 1), line(0, 0), line(0, 0, 1, 0), line(1, 0, 0, 0), line(1, 1, 2, 1, 3, 1)} {
		expectPath(t, g, path, api.ErrBlock)
	}
	expectPath(t, g, line(2, 1, 2, 1), api.ErrPath)
	expectPath(t, g, line(0, 0, 0, 2), api.ErrPath)
}

// P7.1: the errors of each path come in the order of the paths; P7.5, P7.7: behind ErrLimit, in front of ErrClash and ErrArg.
func TestErrorsOfSeveralPaths(t *testing.T) {
	g := grid(4, 3, 10, 5, at(2, 1))
	fine, wrong, blocked, odd := line(0, 0, 1, 0), line(0, 0, 0, 0), line(2, 1, 3, 1), line(0, 2, 1, 2, 2, 2)
	for _, c := range []struct {
		paths [][]api.XY
		err   api.Errno
	}{
		{[][]api.XY{wrong, blocked}, api.ErrPath}, {[][]api.XY{blocked, wrong}, api.ErrBlock}, {[][]api.XY{fine, wrong, blocked}, api.ErrPath}, {[][]api.XY{fine, blocked, wrong}, api.ErrBlock},
		{[][]api.XY{fine, fine, odd, nil}, api.ErrPath}, {[][]api.XY{odd, fine, fine, blocked}, api.ErrBlock},
		{append(slices.Repeat([][]api.XY{fine}, 11), wrong), api.ErrPath}, {append(slices.Repeat([][]api.XY{fine}, 11), blocked), api.ErrBlock},
		{slices.Repeat([][]api.XY{fine}, 13), api.ErrLimit}, {slices.Repeat([][]api.XY{wrong}, 13), api.ErrLimit}, {make([][]api.XY, 13), api.ErrLimit}, {make([][]api.XY, 5000), api.ErrLimit}, {append(slices.Repeat([][]api.XY{odd}, 12), fine), api.ErrLimit},
	} {
		expectPaths(t, g, c.paths, c.err)
	}
}

// P7.2
func TestValid(t *testing.T) {
	for _, g := range invalidGrids() {
		if layout.Valid(g) {
			t.Errorf("%s", call("Valid", g))
		}
	}
	for _, g := range []api.Grid{grid(1, 1, 1, 0), grid(30, 30, 1000, 1000), grid(1, 30, 1, 0), grid(30, 1, 1, 0), grid(1, 1, 1, 0, at(0, 0)), grid(1, 1, 1, 0, slices.Repeat(line(0, 0), 900)...), grid(30, 30, 1, 0, cellsOf(grid(30, 30, 1, 0))...), grid(4, 3, 7, 9, line(3, 0, 0, 2, 3, 2, 0, 0)...)} {
		if !layout.Valid(g) {
			t.Errorf("not %s", call("Valid", g))
		}
	}
}

// P7.2: paths of a limit's length, and what they cost.
func TestCostAtTheLimits(t *testing.T) {
	g := grid(30, 30, 1000, 1000)
	steps, bends, cost, e := layout.Cost(g, snake(g))
	expect(t, "Cost of the snake", [3]int{steps, bends, cost}, e, [3]int{899, 58, 957000}, api.OK)
	for _, c := range []struct {
		path         []api.XY
		steps, bends int
	}{{line(0, 0), 0, 0}, {line(29, 29), 0, 0}, {line(0, 0, 1, 0), 1, 0}, {line(1, 0, 0, 0), 1, 0}, {line(5, 5, 5, 4, 5, 3), 2, 0}, {line(5, 5, 5, 4, 4, 4), 2, 1}, {line(5, 5, 5, 4, 4, 4, 4, 5), 3, 2}, {line(0, 0, 1, 0, 1, 1, 2, 1, 2, 2), 4, 3}} {
		g := grid(30, 30, 7, 100)
		steps, bends, cost, e := layout.Cost(g, c.path)
		expect(t, call("Cost", g, c.path), [3]int{steps, bends, cost}, e, [3]int{c.steps, c.bends, 7*c.steps + 100*c.bends}, api.OK)
	}
}

// P7.2: Check accepts all paths, and Cost counts their steps and bends.
func TestCost(t *testing.T) {
	r := random(72)
	for range 300 {
		g := anyGrid(r, 8, 8)
		cells := freeCells(g)
		if len(cells) == 0 {
			continue
		}
		path := anyPath(r, g, cells[r.Intn(len(cells))], r.Intn(40))
		if e := layout.Check(g, path); e != api.OK {
			t.Errorf("%s = %d", call("Check", g, path), e)
		}
		steps, bends, cost, e := layout.Cost(g, path)
		n, m, sum := priced(g, digits(path))
		expect(t, call("Cost", g, path), [3]int{steps, bends, cost}, e, [3]int{n, m, sum}, api.OK)
		g.Blocked = append(g.Blocked, path[r.Intn(len(path))])
		expectPath(t, g, path, api.ErrBlock)
	}
}

// P7.2: lists are turned that are no paths as well.
func TestTurned(t *testing.T) {
	long := make([]api.XY, 1000)
	for i := range long {
		long[i] = at(i%7, -i)
	}
	for _, l := range [][]api.XY{line(1, 2), line(1, 2, 3, 4), line(1, 2, 1, 2, 5, 6), line(math.MinInt, 0, 0, math.MaxInt, 9, 9), long} {
		got, e := layout.Turned(l)
		expectList(t, call("Turned", l), got, e, backwards(l), api.OK)
	}
	for _, l := range [][]api.XY{nil, {}, make([]api.XY, 1001), make([]api.XY, 5000)} {
		got, e := layout.Turned(l)
		expectList(t, call("Turned", l), got, e, nil, api.ErrPath)
	}
}
