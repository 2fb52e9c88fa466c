package layout_test

import (
	"fmt"
	"math"
	"math/rand"
	"slices"
	"strings"
	"testing"

	"photonmesh/api"
	"photonmesh/layout"
)

// at returns a cell.
func at(x, y int) api.XY { return api.XY{X: x, Y: y} }

// line returns cells from their coordinates.
func line(xy ...int) []api.XY {
	var l []api.XY
	for i := 0; i < len(xy); i += 2 {
		l = append(l, at(xy[i], xy[i+1]))
	}
	return l
}

// grid returns a grid with blocked cells.
func grid(w, h, move, bend int, blocked ...api.XY) api.Grid {
	return api.Grid{W: w, H: h, Move: move, Bend: bend, Blocked: blocked}
}

// drawn returns the grid of a picture: a line for each y, with # for blocked cells.
func drawn(move, bend int, picture ...string) api.Grid {
	g := grid(len(picture[0]), len(picture), move, bend)
	for y, row := range picture {
		for x, c := range row {
			if c == '#' {
				g.Blocked = append(g.Blocked, at(x, y))
			}
		}
	}
	return g
}

// invalidGrids are no grids, for each reason why.
func invalidGrids() []api.Grid {
	l := []api.Grid{{}, grid(3, 3, 1, 0, slices.Repeat([]api.XY{{}}, 901)...), grid(30, 30, 1, 0, make([]api.XY, 5000)...)}
	for _, n := range []int{0, -1, 31, 1000, math.MinInt, math.MaxInt} {
		l = append(l, grid(n, 3, 1, 0), grid(3, n, 1, 0), grid(n, n, 1, 0))
	}
	for _, n := range []int{-1, 1001, math.MinInt, math.MaxInt} {
		l = append(l, grid(3, 3, n, 0), grid(3, 3, 1, n))
	}
	l = append(l, grid(3, 3, 0, 0))
	for _, c := range outside(4, 3) {
		l = append(l, grid(4, 3, 1, 0, c), grid(4, 3, 1, 0, at(0, 0), at(3, 2), c), grid(4, 3, 1, 0, c, at(1, 1)))
	}
	return l
}

// outside are cells that are not on a grid of w by h.
func outside(w, h int) []api.XY {
	return []api.XY{at(-1, 0), at(0, -1), at(w, 0), at(0, h), at(w-1, h), at(w, h-1), at(-1, h-1), at(w-1, -1),
		at(math.MinInt, 0), at(0, math.MinInt), at(math.MaxInt, 0), at(0, math.MaxInt), at(math.MaxInt, math.MinInt)}
}

// notPaths are lists of cells that are no path on any grid, for each reason why.
func notPaths() [][]api.XY {
	l := [][]api.XY{nil, {}, line(0, 0, 0, 0), line(0, 0, 1, 0, 0, 0), line(0, 0, 1, 1), line(0, 0, 2, 0), line(0, 0, 0, 2), line(0, 0, 1, 0, 1, 1, 0, 1, 0, 0), line(2, 0, 0, 0), line(0, 0, 0, 1, 0, 1),
		line(0, 1, 1, 0), line(0, 0, 1, 0, 2, 1), line(math.MaxInt, 0, math.MinInt, 0), line(math.MinInt, 0, math.MaxInt, 0), line(0, math.MaxInt, 0, math.MinInt), line(0, math.MinInt, 0, math.MaxInt), line(0, 0, math.MinInt, 0), line(1, 0, math.MinInt, 0), line(0, 0, 0, math.MaxInt)}
	long := slices.Repeat(line(0, 0, 1, 0), 501)
	straight := []api.XY{}
	for x := range 1001 {
		straight = append(straight, at(x, 0))
	}
	return append(l, long, long[:1001], straight, make([]api.XY, 5000))
}

// leaving are paths that are not all on a grid of w by h.
func leaving(w, h int) [][]api.XY {
	l := [][]api.XY{line(0, 0, -1, 0), line(0, 0, 0, -1), line(-1, 0, 0, 0), line(w-1, 0, w, 0), line(0, h-1, 0, h), line(math.MaxInt-1, 0, math.MaxInt, 0), line(math.MinInt+1, 3, math.MinInt, 3), line(5, math.MaxInt, 5, math.MaxInt-1), line(5, math.MinInt, 5, math.MinInt+1)}
	for _, c := range outside(w, h) {
		l = append(l, []api.XY{c})
	}
	straight := []api.XY{}
	for x := range 1000 {
		straight = append(straight, at(x, 0))
	}
	return append(l, straight)
}

// random returns the same numbers each time.
func random(seed int64) *rand.Rand { return rand.New(rand.NewSource(seed)) }

// anyGrid returns a grid of at most w by h, with some blocked cells.
func anyGrid(r *rand.Rand, w, h int) api.Grid {
	g := grid(1+r.Intn(w), 1+r.Intn(h), 1+r.Intn(4), r.Intn(6))
	if r.Intn(4) == 0 {
		g.Move, g.Bend = 1+r.Intn(1000), r.Intn(1001)
	}
	for range r.Intn(g.W*g.H/2 + 1) {
		g.Blocked = append(g.Blocked, at(r.Intn(g.W), r.Intn(g.H)))
	}
	return g
}

// cellsOf returns all cells of a grid, by y and then by x.
func cellsOf(g api.Grid) []api.XY {
	var l []api.XY
	for i := range g.W * g.H {
		l = append(l, at(i%g.W, i/g.W))
	}
	return l
}

// isFree reports whether a cell is on the grid and not blocked.
func isFree(g api.Grid, c api.XY) bool {
	return c.X >= 0 && c.Y >= 0 && c.X < g.W && c.Y < g.H && !slices.Contains(g.Blocked, c)
}

// freeCells returns the cells that are not blocked.
func freeCells(g api.Grid) []api.XY {
	return slices.DeleteFunc(cellsOf(g), func(c api.XY) bool { return !isFree(g, c) })
}

// moved returns the neighbour by a direction.
func moved(c api.XY, d int) api.XY {
	return at(c.X+[]int{1, 0, -1, 0}[d], c.Y+[]int{0, 1, 0, -1}[d])
}

// digits returns the directions of a path as a text.
func digits(path []api.XY) string {
	text := ""
	for i := range len(path) - 1 {
		for d := range 4 {
			if moved(path[i], d) == path[i+1] {
				text += string(rune('0' + d))
			}
		}
	}
	return text
}

// priced returns the steps, the bends and the cost of directions.
func priced(g api.Grid, text string) (int, int, int) {
	bends := 0
	for i := range len(text) - 1 {
		if text[i] != text[i+1] {
			bends++
		}
	}
	return len(text), bends, len(text)*g.Move + bends*g.Bend
}

// walks calls f with each path from a cell.
func walks(g api.Grid, path []api.XY, f func([]api.XY)) {
	f(path)
	for d := range 4 {
		c := moved(path[len(path)-1], d)
		if isFree(g, c) && !slices.Contains(path, c) {
			walks(g, append(path[:len(path):len(path)], c), f)
		}
	}
}

// arrival is a cell with the direction of the step into it.
type arrival struct {
	at  api.XY
	way byte
}

// arriving is what the directions to an arrival cost.
type arriving struct {
	cost int
	text string
}

// relaxed returns the cheapest and first directions from a cell to all cells,
// found by trying all steps again and again until nothing gets better.
func relaxed(g api.Grid, from api.XY) map[api.XY]arriving {
	best := map[arrival]arriving{{from, 0}: {}}
	for changed := true; changed; {
		changed = false
		for _, c := range freeCells(g) {
			for _, way := range []byte{0, '0', '1', '2', '3'} {
				old, ok := best[arrival{c, way}]
				for d := 0; ok && d < 4; d++ {
					next, text := arrival{moved(c, d), byte('0' + d)}, old.text+string(rune('0'+d))
					_, _, cost := priced(g, text)
					known, ok := best[next]
					if isFree(g, next.at) && (!ok || cost < known.cost || cost == known.cost && text < known.text) {
						best[next], changed = arriving{cost, text}, true
					}
				}
			}
		}
	}
	least := map[api.XY]arriving{}
	for end, a := range best {
		known, ok := least[end.at]
		if !ok || a.cost < known.cost || a.cost == known.cost && a.text < known.text {
			least[end.at] = a
		}
	}
	return least
}

// anyPath returns a path that goes on at random.
func anyPath(r *rand.Rand, g api.Grid, from api.XY, most int) []api.XY {
	path := []api.XY{from}
	for range most {
		d := r.Intn(4)
		for range 4 {
			c := moved(path[len(path)-1], d)
			if isFree(g, c) && !slices.Contains(path, c) {
				path = append(path, c)
				break
			}
			d = (d + 1) % 4
		}
	}
	return path
}

// snake returns the path through all cells of a grid, row by row.
func snake(g api.Grid) []api.XY {
	var l []api.XY
	for y := range g.H {
		for x := range g.W {
			if y%2 == 1 {
				x = g.W - 1 - x
			}
			l = append(l, at(x, y))
		}
	}
	return l
}

// backwards returns a list in the other order.
func backwards(l []api.XY) []api.XY {
	l = slices.Clone(l)
	slices.Reverse(l)
	return l
}

// distance returns the sum of the differences of the coordinates.
func distance(a, b api.XY) int {
	return max(a.X-b.X, b.X-a.X) + max(a.Y-b.Y, b.Y-a.Y)
}

// expect reports a call whose result or error are not the wanted ones.
func expect[T comparable](t *testing.T, call string, got T, e api.Errno, want T, err api.Errno) {
	t.Helper()
	if got != want || e != err {
		t.Errorf("%s = %v, %d; want %v, %d", call, got, e, want, err)
	}
}

// expectList reports a call whose list or error are not the wanted ones.
func expectList[T comparable](t *testing.T, call string, l []T, e api.Errno, want []T, err api.Errno) {
	t.Helper()
	if !slices.Equal(l, want) || e != err {
		t.Errorf("%s = %v, %d; want %v, %d", call, l, e, want, err)
	}
}

// routed returns a Route that there is.
func routed(t *testing.T, g api.Grid, from, to api.XY) ([]api.XY, int) {
	t.Helper()
	path, cost, e := layout.Route(g, from, to)
	if e != api.OK {
		t.Fatalf("%s: error %d", call("Route", g, from, to), e)
	}
	return path, cost
}

// call returns the text of a call with these arguments.
func call(name string, arguments ...any) string {
	text := name + "(" + fmt.Sprint(arguments...) + ")"
	if len(text) > 300 {
		return text[:300] + strings.Repeat(".", 3)
	}
	return text
}
