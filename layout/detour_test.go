package layout_test

import (
	"math"
	"slices"
	"testing"

	"photonmesh/api"
	"photonmesh/layout"
)

// The document's third example, and P7.7: the left side, or else the right side, of the first step with room.
func TestDetour(t *testing.T) {
	for _, c := range []struct {
		g    api.Grid
		path []api.XY
		more int
		want []api.XY
	}{
		{grid(2, 2, 1, 0), line(0, 0, 1, 0), 2, line(0, 0, 0, 1, 1, 1, 1, 0)},
		{grid(2, 2, 1, 0), line(1, 0, 0, 0), 2, line(1, 0, 1, 1, 0, 1, 0, 0)},
		{grid(2, 2, 1, 0), line(0, 1, 1, 1), 2, line(0, 1, 0, 0, 1, 0, 1, 1)},
		{grid(2, 2, 1, 0), line(0, 0, 0, 1), 2, line(0, 0, 1, 0, 1, 1, 0, 1)},
		{grid(2, 2, 1, 0), line(0, 0, 1, 0), 0, line(0, 0, 1, 0)},
		{grid(1, 1, 1, 0), line(0, 0), 0, line(0, 0)},
		// The left side of each direction, where both have room.
		{grid(5, 5, 1, 0), line(2, 2, 3, 2), 2, line(2, 2, 2, 3, 3, 3, 3, 2)}, {grid(5, 5, 1, 0), line(2, 2, 2, 3), 2, line(2, 2, 1, 2, 1, 3, 2, 3)}, {grid(5, 5, 1, 0), line(2, 2, 1, 2), 2, line(2, 2, 2, 1, 1, 1, 1, 2)}, {grid(5, 5, 1, 0), line(2, 2, 2, 1), 2, line(2, 2, 3, 2, 3, 1, 2, 1)},
		// The right side if one cell of the left side is not free.
		{grid(5, 5, 1, 0, at(2, 3)), line(2, 2, 3, 2), 2, line(2, 2, 2, 1, 3, 1, 3, 2)}, {grid(5, 5, 1, 0, at(3, 3)), line(2, 2, 3, 2), 2, line(2, 2, 2, 1, 3, 1, 3, 2)},
		{grid(5, 5, 1, 0), line(2, 2, 3, 2, 3, 3, 4, 3), 2, line(2, 2, 2, 1, 3, 1, 3, 2, 3, 3, 4, 3)},
		// The first step has no room, the second one has; then the first new step with room.
		{drawn(1, 0, "...#", "..##", "....", "...."), line(2, 0, 1, 0, 1, 1), 2, line(2, 0, 1, 0, 0, 0, 0, 1, 1, 1)},
		{drawn(1, 0, "....", "#...", "##.."), line(0, 0, 1, 0, 2, 0), 2, line(0, 0, 1, 0, 1, 1, 2, 1, 2, 0)},
		{drawn(1, 0, "....", "#...", "##.."), line(0, 0, 1, 0, 2, 0), 4, line(0, 0, 1, 0, 1, 1, 2, 1, 3, 1, 3, 0, 2, 0)},
		{grid(3, 3, 1, 0), line(0, 0, 1, 0, 2, 0), 4, line(0, 0, 0, 1, 0, 2, 1, 2, 1, 1, 1, 0, 2, 0)},
		{grid(3, 3, 1, 0), line(0, 1, 1, 1, 2, 1), 4, line(0, 1, 0, 2, 1, 2, 1, 1, 1, 0, 2, 0, 2, 1)},
	} {
		l, e := layout.Detour(c.g, c.path, c.more)
		expectList(t, call("Detour", c.g, c.path, c.more), l, e, c.want, api.OK)
	}
}

// detour returns the same as Detour of a valid path, by the document's words.
func detour(g api.Grid, path []api.XY, more int) ([]api.XY, api.Errno) {
	for ; more > 0; more -= 2 {
		longer := longerBy2(g, path)
		if longer == nil {
			return nil, api.ErrNone
		}
		path = longer
	}
	return path, api.OK
}

// longerBy2 returns a path with one step replaced by three, or nil.
func longerBy2(g api.Grid, path []api.XY) []api.XY {
	for i, d := range digits(path) {
		for _, side := range []int{1, 3} {
			d := (int(d-'0') + side) % 4
			a, b := moved(path[i], d), moved(path[i+1], d)
			if isFree(g, a) && isFree(g, b) && !slices.Contains(path, a) && !slices.Contains(path, b) {
				return slices.Concat(path[:i+1], []api.XY{a, b}, path[i+1:])
			}
		}
	}
	return nil
}

// P7.7: ErrArg comes behind the errors of the path, and in front of ErrNone.
func TestDetourErrors(t *testing.T) {
	for _, g := range []api.Grid{grid(30, 30, 1, 0), grid(2, 1, 1, 0)} {
		for _, more := range []int{-1, -2, 1, 3, 199, 201, 202, 1000, math.MinInt, math.MaxInt, math.MinInt + 1, math.MaxInt - 1} {
			l, e := layout.Detour(g, line(0, 0, 1, 0), more)
			expectList(t, call("Detour", g, more), l, e, nil, api.ErrArg)
		}
	}
	for _, c := range []struct {
		g    api.Grid
		path []api.XY
		more int
	}{{grid(2, 1, 1, 0), line(0, 0, 1, 0), 2}, {grid(1, 1, 1, 0), line(0, 0), 2}, {grid(5, 5, 1, 0), line(2, 2), 200}, {grid(2, 2, 1, 0), line(0, 0, 1, 0), 4}, {grid(2, 2, 1, 0, at(1, 1)), line(0, 0, 1, 0), 2}, {drawn(1, 0, "....", "##..", "##.."), line(0, 0, 1, 0, 2, 0), 2}, {grid(30, 30, 1, 0), snake(grid(30, 30, 1, 0)), 2}} {
		l, e := layout.Detour(c.g, c.path, c.more)
		expectList(t, call("Detour", c.g, c.path, c.more), l, e, nil, api.ErrNone)
		l, e = layout.Detour(c.g, c.path, 0)
		expectList(t, call("Detour", c.g, c.path, 0), l, e, c.path, api.OK)
	}
}

// P7.7, P7.10: Check accepts a detour, which has the same ends and as many steps more.
func TestDetoursAtRandom(t *testing.T) {
	r := random(77)
	made := 0
	for i := range 600 {
		g := anyGrid(r, 12, 12)
		if i%3 == 0 {
			g = anyGrid(r, 30, 30)
			g.Blocked = g.Blocked[:len(g.Blocked)/4]
		}
		cells := freeCells(g)
		if len(cells) == 0 {
			continue
		}
		path := anyPath(r, g, cells[r.Intn(len(cells))], r.Intn(60))
		first, last := path[0], path[len(path)-1]
		if len(path)%2 == distance(first, last)%2 {
			t.Errorf("%v has as many steps as its ends do not allow", path)
		}
		more := 2 * r.Intn(101)
		if r.Intn(2) == 0 {
			more = 2 * r.Intn(6)
		}
		l, e := layout.Detour(g, path, more)
		want, err := detour(g, path, more)
		expectList(t, call("Detour", g, path, more), l, e, want, err)
		if e != api.OK {
			continue
		}
		made++
		if layout.Check(g, l) != api.OK || len(l) != len(path)+more || l[0] != first || l[len(l)-1] != last {
			t.Errorf("%s = %v", call("Detour", g, path, more), l)
		}
	}
	if made < 100 {
		t.Errorf("only %d detours", made)
	}
}

// P7.7
func TestMatch(t *testing.T) {
	g := grid(30, 30, 1, 0)
	long := snake(g)
	for _, c := range []struct {
		paths [][]api.XY
		want  []int
		err   api.Errno
	}{
		{nil, nil, api.OK}, {[][]api.XY{line(3, 3)}, []int{0}, api.OK}, {[][]api.XY{long}, []int{0}, api.OK},
		{[][]api.XY{long[:3], long[10:15], long[20:27]}, []int{4, 2, 0}, api.OK}, {[][]api.XY{long[20:27], long[:3], long[10:15]}, []int{0, 4, 2}, api.OK}, {[][]api.XY{long[:4], long[10:16]}, []int{2, 0}, api.OK},
		{[][]api.XY{long[:3], long[10:14]}, nil, api.ErrArg}, {[][]api.XY{long[:4], long[10:13]}, nil, api.ErrArg}, {[][]api.XY{long[:3], long[10:15], long[20:26]}, nil, api.ErrArg}, {[][]api.XY{long[:2], long[10:11], long[20:23]}, nil, api.ErrArg},
		// Paths that do not go together are matched as well.
		{[][]api.XY{long, long[:2], long[:4]}, []int{0, 898, 896}, api.OK}, {[][]api.XY{long[:1], long[:1], long[:3]}, []int{2, 2, 0}, api.OK},
		{append(slices.Repeat([][]api.XY{long[:1]}, 11), long[:899]), append(slices.Repeat([]int{898}, 11), 0), api.OK},
	} {
		l, e := layout.Match(g, c.paths)
		expectList(t, call("Match", c.paths), l, e, c.want, c.err)
	}
}

// P7.7: Detour by what Match says gives all paths the same number of steps.
func TestMatchAndDetour(t *testing.T) {
	g := grid(8, 9, 3, 2)
	paths := [][]api.XY{line(0, 0, 1, 0), line(0, 3, 1, 3, 2, 3, 3, 3), line(0, 6, 1, 6, 2, 6, 3, 6, 4, 6, 4, 5)}
	missing, e := layout.Match(g, paths)
	expectList(t, call("Match", paths), missing, e, []int{4, 2, 0}, api.OK)
	for i, n := range missing {
		l, e := layout.Detour(g, paths[i], n)
		if len(l) != 6 || e != api.OK {
			t.Errorf("%s = %v, %d", call("Detour", paths[i], n), l, e)
		}
	}
}

// R4: arguments are not changed, and results are new memory each time.
func TestResultsAreNew(t *testing.T) {
	g := grid(6, 5, 3, 2, slices.Repeat(line(5, 4), 3)...)
	paths := [][]api.XY{line(0, 1, 1, 1, 2, 1), line(1, 0, 1, 1, 1, 2)}
	blocked, first, second := slices.Clone(g.Blocked), slices.Clone(paths[0]), slices.Clone(paths[1])
	unchanged := func() {
		t.Helper()
		if !slices.Equal(g.Blocked, blocked) || !slices.Equal(paths[0], first) || !slices.Equal(paths[1], second) {
			t.Fatalf("an argument was changed: %v, %v", g, paths)
		}
	}
	for _, f := range []func() []api.XY{
		func() []api.XY { l, _ := layout.Turned(paths[0]); return l },
		func() []api.XY { l, _ := layout.Detour(g, paths[0], 0); return l },
		func() []api.XY { l, _ := layout.Detour(g, paths[0], 2); return l },
		func() []api.XY { l, _, _ := layout.Route(g, at(0, 0), at(4, 4)); return l },
		func() []api.XY { l, _ := layout.Together(g, paths); return l },
	} {
		expectNew(t, f, at(-7, -7), unchanged)
	}
	for _, f := range []func() []int{
		func() []int { l, _ := layout.Far(g, at(2, 2)); return l },
		func() []int { l, _ := layout.Match(g, paths); return l },
	} {
		expectNew(t, f, -7, unchanged)
	}
	expectNew(t, func() [][3]int { l, _ := layout.Crossed(g, paths); return l }, [3]int{7, 7, 7}, unchanged)
	numbers := make([]int, 30)
	if is, e := layout.IsProof(g, at(0, 0), numbers); !is || e != api.OK || !slices.Equal(numbers, make([]int, 30)) {
		t.Errorf("IsProof = %v, %d; %v", is, e, numbers)
	}
}

// expectNew reports a result whose change changes an argument or the result of the next call.
func expectNew[T comparable](t *testing.T, f func() []T, other T, unchanged func()) {
	t.Helper()
	l := f()
	want := slices.Clone(l)
	for i := range l {
		l[i] = other
	}
	_ = append(l, other)
	unchanged()
	if next := f(); len(want) == 0 || !slices.Equal(next, want) {
		t.Errorf("got %v, then %v", want, next)
	}
}
