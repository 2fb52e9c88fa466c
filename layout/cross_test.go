package layout_test

import (
	"math"
	"slices"
	"testing"

	"photonmesh/api"
	"photonmesh/layout"
)

// The document's second example, and P7.5: what crosses, and what clashes.
func TestTogether(t *testing.T) {
	row, column := line(0, 1, 1, 1, 2, 1), line(1, 0, 1, 1, 1, 2)
	for _, c := range []struct {
		w, h      int
		paths     [][]api.XY
		crossings []api.XY
		times     [][3]int
		err       api.Errno
	}{
		{3, 3, [][]api.XY{row, column}, line(1, 1), [][3]int{{0, 1, 1}}, api.OK},
		{3, 3, [][]api.XY{backwards(column), row}, line(1, 1), [][3]int{{0, 1, 1}}, api.OK},
		{3, 3, [][]api.XY{backwards(row), backwards(column)}, line(1, 1), [][3]int{{0, 1, 1}}, api.OK},
		{3, 3, nil, nil, nil, api.OK}, {3, 3, [][]api.XY{row}, nil, nil, api.OK}, {3, 3, [][]api.XY{line(1, 1)}, nil, nil, api.OK}, {3, 3, [][]api.XY{line(1, 1), line(1, 0)}, nil, nil, api.OK},
		{3, 3, [][]api.XY{line(0, 0, 1, 0), line(2, 0, 2, 1), line(1, 1, 0, 1)}, nil, nil, api.OK},
		{3, 3, [][]api.XY{row, row}, nil, nil, api.ErrClash}, {3, 3, [][]api.XY{row, backwards(row)}, nil, nil, api.ErrClash}, {3, 3, [][]api.XY{line(1, 1), line(1, 1)}, nil, nil, api.ErrClash},
		// An end of the one, or of the other one, or of both.
		{3, 3, [][]api.XY{row, line(1, 1)}, nil, nil, api.ErrClash}, {3, 3, [][]api.XY{line(1, 1), column}, nil, nil, api.ErrClash},
		{3, 3, [][]api.XY{row, line(1, 1, 1, 2)}, nil, nil, api.ErrClash}, {3, 3, [][]api.XY{row, line(1, 2, 1, 1)}, nil, nil, api.ErrClash}, {3, 3, [][]api.XY{line(0, 1, 1, 1), column}, nil, nil, api.ErrClash}, {3, 3, [][]api.XY{line(1, 1, 0, 1), column}, nil, nil, api.ErrClash},
		{3, 3, [][]api.XY{line(0, 1, 1, 1), line(1, 0, 1, 1)}, nil, nil, api.ErrClash}, {3, 3, [][]api.XY{line(1, 1, 0, 1), line(1, 1, 1, 0)}, nil, nil, api.ErrClash},
		// A bend of the one, or of the other one, or of both.
		{3, 3, [][]api.XY{row, line(1, 0, 1, 1, 0, 1)}, nil, nil, api.ErrClash}, {3, 3, [][]api.XY{line(0, 1, 1, 1, 1, 0), column}, nil, nil, api.ErrClash}, {3, 3, [][]api.XY{line(0, 1, 1, 1, 1, 0), line(2, 1, 1, 1, 1, 2)}, nil, nil, api.ErrClash},
		{3, 3, [][]api.XY{line(0, 1, 1, 1, 1, 2), line(1, 0, 1, 1, 2, 1)}, nil, nil, api.ErrClash},
		// Both straight on, and in the same row.
		{5, 3, [][]api.XY{line(0, 1, 1, 1, 2, 1, 3, 1, 4, 1), line(1, 2, 1, 1, 2, 1, 3, 1, 3, 2)}, nil, nil, api.ErrClash},
		// Three in one cell.
		{3, 3, [][]api.XY{row, column, line(1, 1)}, nil, nil, api.ErrClash}, {3, 3, [][]api.XY{row, column, backwards(row)}, nil, nil, api.ErrClash},
		// Two crossings of the same paths, in the order of y and not of the paths.
		{4, 4, [][]api.XY{line(1, 0, 1, 1, 1, 2, 1, 3, 2, 3, 2, 2, 2, 1, 2, 0), line(0, 1, 1, 1, 2, 1, 3, 1)}, line(1, 1, 2, 1), [][3]int{{0, 1, 2}}, api.OK},
		{4, 4, [][]api.XY{line(0, 3, 1, 3, 2, 3, 3, 3), line(3, 0, 2, 0, 1, 0, 0, 0), line(1, 0, 1, 1)}, nil, nil, api.ErrClash},
		{4, 4, [][]api.XY{line(0, 2, 1, 2, 2, 2, 3, 2), line(2, 0, 2, 1, 2, 2, 2, 3), line(3, 1, 2, 1, 1, 1, 0, 1), line(1, 3, 1, 2, 1, 1, 1, 0)}, line(1, 1, 2, 1, 1, 2, 2, 2), [][3]int{{0, 1, 1}, {0, 3, 1}, {1, 2, 1}, {2, 3, 1}}, api.OK},
		{4, 4, [][]api.XY{line(2, 0, 2, 1, 2, 2, 2, 3), line(0, 0), line(0, 1, 1, 1, 2, 1, 3, 1, 3, 2, 2, 2, 1, 2, 0, 2)}, line(2, 1, 2, 2), [][3]int{{0, 2, 2}}, api.OK},
	} {
		g := grid(c.w, c.h, 1, 1)
		l, e := layout.Together(g, c.paths)
		expectList(t, call("Together", c.paths), l, e, c.crossings, c.err)
		times, e := layout.Crossed(g, c.paths)
		expectList(t, call("Crossed", c.paths), times, e, c.times, c.err)
	}
}

// P7.5: as many paths as there may be, with as many crossings as there can be of 6 and 6.
func TestTwelvePaths(t *testing.T) {
	g := grid(30, 30, 1, 0)
	var paths [][]api.XY
	var times [][3]int
	var crossings []api.XY
	for k := range 6 {
		var row, column []api.XY
		for i := range 30 {
			row, column = append(row, at(i, 5*k+1)), append(column, at(4*k+2, i))
		}
		paths = append(paths, row, column)
		for m := range 6 {
			crossings = append(crossings, at(4*m+2, 5*k+1))
			times = append(times, [3]int{min(2*k, 2*m+1), max(2*k, 2*m+1), 1})
		}
	}
	slices.SortFunc(times, func(a, b [3]int) int { return slices.Compare(a[:], b[:]) })
	l, e := layout.Together(g, paths)
	expectList(t, "Together of twelve", l, e, crossings, api.OK)
	got, e := layout.Crossed(g, paths)
	expectList(t, "Crossed of twelve", got, e, times, api.OK)
	expectPaths(t, g, append(paths, line(0, 0)), api.ErrLimit)
}

// together returns the crossings of paths and how often each two cross, and
// whether they go together, by the document's words for each cell and each two paths.
func together(g api.Grid, paths [][]api.XY) ([]api.XY, [][3]int, bool) {
	var crossings []api.XY
	times := map[[2]int]int{}
	for _, c := range cellsOf(g) {
		var in []int
		horizontal := 0
		for k, path := range paths {
			i := slices.Index(path, c)
			if i < 0 {
				continue
			}
			in = append(in, k)
			if i == 0 || i == len(path)-1 {
				horizontal += 10
				continue
			}
			switch a, b := path[i-1], path[i+1]; {
			case a.Y == b.Y:
				horizontal++
			case a.X != b.X:
				horizontal += 10
			}
		}
		if len(in) < 2 {
			continue
		}
		if len(in) > 2 || horizontal != 1 {
			return nil, nil, false
		}
		crossings = append(crossings, c)
		times[[2]int{in[0], in[1]}]++
	}
	var l [][3]int
	for k := range paths {
		for m := k + 1; m < len(paths); m++ {
			if n := times[[2]int{k, m}]; n > 0 {
				l = append(l, [3]int{k, m, n})
			}
		}
	}
	return crossings, l, true
}

// P7.5: several paths at random, many of which go together.
func TestTogetherAtRandom(t *testing.T) {
	r := random(75)
	fine := 0
	for range 6000 {
		g := grid(3+r.Intn(6), 3+r.Intn(6), 1, 1)
		var paths [][]api.XY
		for range 1 + r.Intn(5) {
			ends := []api.XY{at(r.Intn(g.W), 0), at(r.Intn(g.W), g.H-1)}
			if r.Intn(2) == 0 {
				ends = []api.XY{at(0, r.Intn(g.H)), at(g.W-1, r.Intn(g.H))}
			}
			path, _ := routed(t, g, ends[0], ends[1])
			if r.Intn(4) == 0 {
				path = anyPath(r, g, at(r.Intn(g.W), r.Intn(g.H)), 8)
			}
			paths = append(paths, path)
		}
		crossings, times, ok := together(g, paths)
		want := api.OK
		if !ok {
			want = api.ErrClash
		} else {
			fine++
		}
		l, e := layout.Together(g, paths)
		expectList(t, call("Together", g, paths), l, e, crossings, want)
		got, e := layout.Crossed(g, paths)
		expectList(t, call("Crossed", g, paths), got, e, times, want)
	}
	if fine < 500 {
		t.Errorf("only %d lists of paths go together", fine)
	}
}

// around returns the cells of the rim in its order, by the document's words.
func around(g api.Grid) []api.XY {
	var l []api.XY
	for x := 0; x < g.W; x++ {
		l = append(l, at(x, 0))
	}
	for y := 0; y < g.H; y++ {
		l = append(l, at(g.W-1, y))
	}
	for x := g.W - 1; x >= 0; x-- {
		l = append(l, at(x, g.H-1))
	}
	for y := g.H - 1; y >= 0; y-- {
		l = append(l, at(0, y))
	}
	var once []api.XY
	for _, c := range l {
		if !slices.Contains(once, c) {
			once = append(once, c)
		}
	}
	return once
}

// P7.6: the places of all cells of all grids; blocked cells have their places too.
func TestRim(t *testing.T) {
	for w := 1; w <= 30; w++ {
		for h := 1; h <= 30; h++ {
			g := grid(w, h, 1, 0, at(0, 0), at(w-1, h-1))
			if w > 8 && h > 8 && w+h < 58 {
				continue
			}
			rim := around(g)
			for _, c := range cellsOf(g) {
				place, is, e := layout.Rim(g, c)
				want := slices.Index(rim, c)
				expect(t, call("Rim", g, c), is, e, want >= 0, api.OK)
				expect(t, call("Rim", g, c), place, e, max(want, 0), api.OK)
			}
		}
	}
	for _, c := range outside(4, 3) {
		place, is, e := layout.Rim(grid(4, 3, 1, 0), c)
		expect(t, call("Rim", c), place, e, 0, api.ErrBlock)
		expect(t, call("Rim", c), is, e, false, api.ErrBlock)
	}
}

// P7.6: all four ends on small grids, blocked or not.
func TestMust(t *testing.T) {
	must, e := layout.Must(grid(3, 3, 1, 0), at(0, 1), at(2, 1), at(1, 0), at(1, 2))
	expect(t, "Must of the example", must, e, true, api.OK)
	for _, g := range []api.Grid{grid(3, 3, 1, 0), grid(4, 2, 1, 0, at(0, 0), at(3, 1)), grid(1, 5, 1, 0), grid(5, 1, 1, 0), grid(2, 2, 1, 0), grid(4, 4, 1, 0, at(0, 2))} {
		cells := cellsOf(g)
		rim := around(g)
		for n := range len(cells) * len(cells) * len(cells) * len(cells) {
			var ends [4]api.XY
			var places [4]int
			for i := range ends {
				ends[i] = cells[n%len(cells)]
				n /= len(cells)
				places[i] = slices.Index(rim, ends[i])
			}
			sorted := slices.Sorted(slices.Values(places[:]))
			must, e := layout.Must(g, ends[0], ends[1], ends[2], ends[3])
			if sorted[0] < 0 || len(slices.Compact(sorted)) < 4 {
				expect(t, call("Must", g, ends), must, e, false, api.ErrArg)
				continue
			}
			expect(t, call("Must", g, ends), must, e, isBetween(places, 2) != isBetween(places, 3), api.OK)
		}
	}
}

// isBetween reports whether a place lies between the first two of them.
func isBetween(places [4]int, i int) bool {
	return (places[i] > places[0]) == (places[i] < places[1])
}

// P7.6: a cell that is not on the grid comes in front of one that is not on the rim, and of two that are the same.
func TestMustErrors(t *testing.T) {
	g := grid(4, 3, 1, 0)
	for _, rest := range [][]api.XY{line(0, 0, 1, 0, 2, 0), line(1, 1, 2, 1, 1, 1), line(0, 0, 0, 0, 0, 0)} {
		for _, c := range outside(4, 3) {
			for i := range 4 {
				l := slices.Insert(slices.Clone(rest), i, c)
				must, e := layout.Must(g, l[0], l[1], l[2], l[3])
				expect(t, call("Must", l), must, e, false, api.ErrBlock)
			}
		}
	}
	same := at(math.MaxInt, 1)
	must, e := layout.Must(g, same, same, same, same)
	expect(t, call("Must", same), must, e, false, api.ErrBlock)
}

// P7.11: all paths between places of the rim that go together, on small grids.
func TestCrossingsOfAllPaths(t *testing.T) {
	crossed := map[int]int{}
	for _, g := range []api.Grid{grid(3, 3, 1, 0), grid(4, 3, 1, 0, at(0, 0)), grid(5, 3, 1, 0, at(0, 0), at(4, 0), at(2, 2), at(0, 2)), grid(6, 1, 1, 0)} {
		var paths [][]api.XY
		rim := around(g)
		for _, from := range rim {
			if !isFree(g, from) {
				continue
			}
			walks(g, []api.XY{from}, func(path []api.XY) {
				end := path[len(path)-1]
				if len(path) > 1 && slices.Index(rim, from) < slices.Index(rim, end) {
					paths = append(paths, path)
				}
			})
		}
		for i, a := range paths {
			for k := 0; k < i; k += 1 + (i+k)%7 {
				expectParity(t, g, a, paths[k], crossed)
			}
		}
	}
	if crossed[0] == 0 || crossed[1] == 0 || crossed[2] == 0 {
		t.Errorf("pairs by how often they cross: %v", crossed)
	}
}

// expectParity reports two paths that go together and cross an odd number of times although they must not, or the other way round.
func expectParity(t *testing.T, g api.Grid, a, b []api.XY, crossed map[int]int) {
	t.Helper()
	must, e := layout.Must(g, a[0], a[len(a)-1], b[0], b[len(b)-1])
	if e != api.OK {
		return
	}
	l, e := layout.Together(g, [][]api.XY{a, b})
	if e != api.OK {
		return
	}
	crossed[len(l)]++
	if (len(l)%2 == 1) != must {
		t.Errorf("%v and %v: crossings %v, Must %v", a, b, l, must)
	}
}
