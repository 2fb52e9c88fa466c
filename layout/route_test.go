package layout_test

import (
	"math"
	"slices"
	"testing"

	"photonmesh/api"
	"photonmesh/layout"
)

// The document's first example, and P7.3: of several the path whose directions come first.
func TestRoute(t *testing.T) {
	for _, c := range []struct {
		g          api.Grid
		from, to   api.XY
		directions string
		cost       int
	}{
		{grid(4, 3, 10, 5), at(0, 0), at(3, 2), "00011", 55},
		{grid(4, 3, 10, 5), at(3, 2), at(0, 0), "22233", 55},
		{grid(4, 3, 10, 0), at(3, 2), at(0, 0), "22233", 50},
		{grid(4, 3, 10, 0), at(0, 2), at(3, 0), "00033", 50},
		{grid(4, 3, 10, 5), at(3, 0), at(0, 2), "11222", 55},
		{grid(1, 1, 1, 0), at(0, 0), at(0, 0), "", 0},
		{grid(5, 1, 1000, 1000), at(4, 0), at(0, 0), "2222", 4000},
		{grid(1, 5, 3, 7), at(0, 1), at(0, 4), "111", 9},
		{drawn(1, 0, "..", "..", ".."), at(0, 0), at(0, 0), "", 0},
		{drawn(1, 5, "...", ".#.", "..."), at(0, 1), at(2, 1), "1003", 14},
		{drawn(1, 1, ".#.#.", "....#", "##..."), at(0, 0), at(4, 2), "100010", 9},
		// Few bends may cost less than few steps.
		{drawn(1, 100, ".##..", "...#.", ".#...", "....."), at(0, 0), at(4, 0), "1110000333", 210},
		{drawn(1, 0, ".##..", "...#.", ".#...", "....."), at(0, 0), at(4, 0), "10010033", 8},
	} {
		path, cost, e := layout.Route(c.g, c.from, c.to)
		expect(t, call("Route", c.g, c.from, c.to), digits(path), e, c.directions, api.OK)
		expect(t, call("Route", c.g, c.from, c.to), cost, e, c.cost, api.OK)
		if len(path) == 0 || path[0] != c.from || path[len(path)-1] != c.to {
			t.Errorf("%s = %v", call("Route", c.g, c.from, c.to), path)
		}
	}
}

// P7.3: the errors of Far and Route.
func TestNoRoute(t *testing.T) {
	g := drawn(1, 1, "..#.", ".#..", "#...")
	for _, c := range append(outside(4, 3), at(2, 0), at(1, 1), at(0, 2)) {
		far, e := layout.Far(g, c)
		expectList(t, call("Far", g, c), far, e, nil, api.ErrBlock)
		for _, other := range []api.XY{c, at(0, 0), at(3, 2), at(1, 1), at(-1, -1)} {
			path, cost, e := layout.Route(g, c, other)
			expectList(t, call("Route", g, c, other), path, e, nil, api.ErrBlock)
			expect(t, call("Route", g, c, other), cost, e, 0, api.ErrBlock)
			path, cost, e = layout.Route(g, other, c)
			expectList(t, call("Route", g, other, c), path, e, nil, api.ErrBlock)
			expect(t, call("Route", g, other, c), cost, e, 0, api.ErrBlock)
		}
	}
	for _, ends := range [][2]api.XY{{at(0, 0), at(3, 2)}, {at(3, 2), at(0, 0)}, {at(1, 0), at(3, 0)}} {
		path, cost, e := layout.Route(g, ends[0], ends[1])
		expectList(t, call("Route", g, ends), path, e, nil, api.ErrNone)
		expect(t, call("Route", g, ends), cost, e, 0, api.ErrNone)
	}
	far, e := layout.Far(g, at(0, 0))
	expectList(t, call("Far", g, at(0, 0)), far, e, []int{0, 1, -1, -1, 1, -1, -1, -1, -1, -1, -1, -1}, api.OK)
	far, e = layout.Far(grid(1, 1, 1, 0), at(0, 0))
	expectList(t, "Far of one cell", far, e, []int{0}, api.OK)
	alone := drawn(1, 1, "#.#", ".#.")
	far, e = layout.Far(alone, at(1, 0))
	expectList(t, "Far of a lone cell", far, e, []int{-1, 0, -1, -1, -1, -1}, api.OK)
}

// P7.3, P7.8: no path is cheaper, and none that is as cheap comes first, by trying all paths.
func TestRoutesOfSmallGrids(t *testing.T) {
	r := random(73)
	for range 400 {
		g := anyGrid(r, 4, 4)
		for _, from := range freeCells(g) {
			best := map[api.XY]arriving{}
			walks(g, []api.XY{from}, func(path []api.XY) {
				text, end := digits(path), path[len(path)-1]
				_, _, cost := priced(g, text)
				known, ok := best[end]
				if !ok || cost < known.cost || cost == known.cost && text < known.text {
					best[end] = arriving{cost, text}
				}
			})
			expectBest(t, g, from, best)
		}
	}
}

// P7.3: the same on larger grids.
func TestRoutesOfLargerGrids(t *testing.T) {
	r := random(74)
	for i := range 40 {
		g := anyGrid(r, 12, 12)
		if i < 3 {
			g = grid(12, 12, 10, []int{0, 5, 1000}[i])
		}
		cells := freeCells(g)
		for range min(3, len(cells)) {
			from := cells[r.Intn(len(cells))]
			expectBest(t, g, from, relaxed(g, from))
		}
	}
}

// expectBest reports routes from a cell that are not the wanted ones, and what Far says otherwise.
func expectBest(t *testing.T, g api.Grid, from api.XY, best map[api.XY]arriving) {
	t.Helper()
	far, e := layout.Far(g, from)
	if len(far) != g.W*g.H || e != api.OK {
		t.Fatalf("%s = %v, %d", call("Far", g, from), far, e)
	}
	for i, c := range cellsOf(g) {
		want, ok := best[c]
		switch {
		case ok:
			path, cost := routed(t, g, from, c)
			if digits(path) != want.text || cost != want.cost || far[i] != want.cost {
				t.Errorf("%s = %v, %d; Far %d; want %v", call("Route", g, from, c), path, cost, far[i], want)
			}
		case isFree(g, c):
			_, _, e := layout.Route(g, from, c)
			expect(t, call("Far and Route", g, from, c), far[i], e, -1, api.ErrNone)
		default:
			expect(t, call("Far", g, from, c), far[i], e, -1, api.OK)
		}
	}
}

// P7.3 on the largest grids: a maze, and nothing blocked.
func TestLongRoutes(t *testing.T) {
	g := grid(30, 30, 1000, 1000)
	for y := 1; y < 30; y += 2 {
		gap := 29
		if y%4 == 3 {
			gap = 0
		}
		for x := range 30 {
			if x != gap {
				g.Blocked = append(g.Blocked, at(x, y))
			}
		}
	}
	path, cost := routed(t, g, at(0, 0), at(29, 28))
	if len(path) != 15*30+14 || cost != 463000+28000 {
		t.Errorf("the maze: %d cells, cost %d", len(path), cost)
	}
	far, e := layout.Far(grid(30, 30, 1000, 1000), at(29, 29))
	expect(t, "Far on the largest grid", far[0], e, 59000, api.OK)
}

// P7.8: Check accepts a Route, its Cost is the cost, Far of its first cell too, and the order of ends makes no difference.
func TestRoutesAndFar(t *testing.T) {
	r := random(78)
	for range 60 {
		g := anyGrid(r, 30, 30)
		cells := freeCells(g)
		if len(cells) == 0 {
			continue
		}
		from, to := cells[r.Intn(len(cells))], cells[r.Intn(len(cells))]
		there, e := layout.Far(g, to)
		back, f := layout.Far(g, from)
		if e != api.OK || f != api.OK || there[from.Y*g.W+from.X] != back[to.Y*g.W+to.X] {
			t.Errorf("%s: errors %d and %d, or not that of the other order", call("Far", g, from, to), e, f)
		}
		path, cost, e := layout.Route(g, from, to)
		if e == api.ErrNone {
			expect(t, call("Far", g, to), there[from.Y*g.W+from.X], e, -1, api.ErrNone)
			continue
		}
		_, _, sum, e := layout.Cost(g, path)
		if e != api.OK || sum != cost || there[from.Y*g.W+from.X] != cost {
			t.Errorf("%s = %v, %d; Cost %d, %d", call("Route", g, from, to), path, cost, sum, e)
		}
		expectDearer(t, g, to, there, cells[r.Intn(len(cells))])
	}
}

// expectDearer reports costs that get less when one more cell is blocked.
func expectDearer(t *testing.T, g api.Grid, to api.XY, before []int, block api.XY) {
	t.Helper()
	if block == to {
		return
	}
	g.Blocked = append(slices.Clone(g.Blocked), block)
	after, e := layout.Far(g, to)
	if len(after) != len(before) || e != api.OK {
		t.Fatalf("%s = %v, %d", call("Far", g, to), after, e)
	}
	for i := range before {
		if after[i] >= 0 && (before[i] < 0 || after[i] < before[i]) {
			t.Errorf("%s: cell %d costs %d, not %d, with %v", call("Far", g, to), i, after[i], before[i], block)
		}
	}
}

// P7.4: a number too great at one place only is no proof.
func TestIsProof(t *testing.T) {
	row := grid(3, 1, 10, 5)
	for _, c := range []struct {
		g    api.Grid
		far  []int
		want bool
	}{
		{row, []int{0, 10, 20}, true}, {row, []int{1, 10, 20}, false}, {row, []int{0, 11, 20}, false}, {row, []int{0, 10, 21}, false}, {row, []int{0, 0, 0}, true}, {row, []int{-5, 5, 15}, true}, {row, []int{-5, 6, 15}, false},
		{row, []int{-11, -1, 9}, true}, {row, []int{-1, 10, 0}, false}, {row, []int{-11, 0, 0}, false}, {row, []int{0, -1000000000, 0}, false}, {row, []int{-1000000000, -1000000000, -1000000000}, true}, {row, []int{-1000000000, 1000000000, 0}, false},
		{grid(3, 1, 10, 5, at(1, 0)), []int{0, 1000000000, 1000000000}, true}, {grid(3, 1, 10, 5, at(1, 0)), []int{0, -1000000000, 1000000000}, true}, {grid(3, 1, 10, 5, at(2, 0)), []int{0, 11, -1000000000}, false}, {grid(3, 1, 10, 5, at(2, 0)), []int{0, 10, -1000000000}, true},
		{grid(2, 2, 10, 5), []int{0, 10, 10, 20}, true}, {grid(2, 2, 10, 5), []int{0, 10, 10, 21}, false}, {grid(2, 2, 10, 5), []int{0, 10, 11, 20}, false}, {grid(2, 2, 10, 5), []int{0, 0, 10, 10}, true}, {grid(2, 2, 10, 5), []int{0, 0, 10, 11}, false}, {grid(2, 2, 10, 5), []int{0, 0, -11, 0}, false},
		{grid(1, 1, 10, 5), []int{0}, true}, {grid(1, 1, 10, 5), []int{1}, false}, {grid(1, 1, 10, 5), []int{-1000000000}, true},
		// Cells at the end of a row and at the beginning of the next one are no neighbours.
		{grid(2, 2, 1, 5), []int{0, 1, 1, 0}, true}, {grid(2, 3, 1, 0), []int{0, 1, 1, 2, 2, 3}, true}, {grid(3, 2, 1, 0, at(0, 1)), []int{0, 1, 2, 1000, 2, 3}, true},
	} {
		is, e := layout.IsProof(c.g, at(0, 0), c.far)
		expect(t, call("IsProof", c.g, c.far), is, e, c.want, api.OK)
	}
}

// P7.4: the errors, in their order.
func TestIsProofErrors(t *testing.T) {
	g := grid(4, 3, 10, 5, at(2, 1))
	wrong := [][]int{nil, make([]int, 11), make([]int, 13), make([]int, 5000)}
	for _, x := range []int{1000000001, -1000000001, math.MinInt, math.MaxInt} {
		for i := range 12 {
			l := make([]int, 12)
			l[i] = x
			wrong = append(wrong, l)
		}
	}
	for _, far := range append(wrong, make([]int, 12)) {
		for _, to := range append(outside(4, 3), at(2, 1)) {
			is, e := layout.IsProof(g, to, far)
			expect(t, call("IsProof", g, to, far), is, e, false, api.ErrBlock)
		}
	}
	for _, far := range wrong {
		is, e := layout.IsProof(g, at(0, 0), far)
		expect(t, call("IsProof", g, far), is, e, false, api.ErrArg)
	}
}

// P7.4, P7.9: the distance is a proof; no path costs less than a proof's number; one more is a proof or not by the document's words.
func TestProofs(t *testing.T) {
	r := random(79)
	for range 200 {
		g := anyGrid(r, 9, 9)
		cells := freeCells(g)
		if len(cells) == 0 {
			continue
		}
		to := cells[r.Intn(len(cells))]
		var numbers []int
		for _, c := range cellsOf(g) {
			numbers = append(numbers, g.Move*distance(c, to))
		}
		for range 40 {
			is, e := layout.IsProof(g, to, numbers)
			expect(t, call("IsProof", g, to, numbers), is, e, isProof(g, to, numbers), api.OK)
			if is {
				expectBelow(t, g, to, numbers)
			}
			numbers[r.Intn(len(numbers))] += r.Intn(2*g.Move+1) - g.Move
		}
	}
	g := anyGrid(r, 30, 30)
	g.Blocked = nil
	far, e := layout.Far(grid(g.W, g.H, g.Move, 0), at(0, 0))
	is, f := layout.IsProof(g, at(0, 0), far)
	if !is || e != api.OK || f != api.OK {
		t.Errorf("Far without bends is no proof: errors %d, %d", e, f)
	}
}

// isProof reports the same as IsProof, by the document's words for each two cells.
func isProof(g api.Grid, to api.XY, numbers []int) bool {
	cells := cellsOf(g)
	for i, a := range cells {
		if a == to && numbers[i] > 0 {
			return false
		}
		for k, b := range cells {
			if distance(a, b) == 1 && isFree(g, a) && isFree(g, b) && numbers[i] > numbers[k]+g.Move {
				return false
			}
		}
	}
	return true
}

// expectBelow reports a proof with numbers above the least costs.
func expectBelow(t *testing.T, g api.Grid, to api.XY, numbers []int) {
	t.Helper()
	far, e := layout.Far(g, to)
	if e != api.OK {
		t.Fatalf("%s: error %d", call("Far", g, to), e)
	}
	for i := range far {
		if far[i] >= 0 && far[i] < numbers[i] {
			t.Errorf("%s: cell %d costs %d, the proof says %d", call("Far", g, to), i, far[i], numbers[i])
		}
	}
}
