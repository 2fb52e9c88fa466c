package layout

import (
	"slices"

	"photonmesh/api"
)

const (
	maxMore = 200 // steps by which a detour makes a path longer
	gained  = 2   // steps by which a single replacement makes it longer
	left    = 1   // quarters of a turn to the left side
	right   = 3   // quarters of a turn to the right side
)

// Check returns the error of a path, or OK.
func Check(g api.Grid, path []api.XY) api.Errno {
	_, e := readPath(g, path)
	return e
}

// Cost returns the steps and bends of a path, and what they cost.
func Cost(g api.Grid, path []api.XY) (steps, bends, cost int, err api.Errno) {
	b, e := readPath(g, path)
	if e != api.OK {
		return 0, 0, 0, e
	}
	way := none
	for _, next := range waysOf(path) {
		steps++
		if isBend(way, next) {
			bends++
		}
		cost += b.Move + b.bend(way, next)
		way = next
	}
	return steps, bends, cost, api.OK
}

// Turned returns a list of cells in the other order.
func Turned(path []api.XY) ([]api.XY, api.Errno) {
	if !fits(path) {
		return nil, api.ErrPath
	}
	l := slices.Clone(path)
	slices.Reverse(l)
	return l, api.OK
}

// Detour makes a path longer by more steps.
func Detour(g api.Grid, path []api.XY, more int) ([]api.XY, api.Errno) {
	b, e := readPath(g, path)
	if e != api.OK {
		return nil, e
	}
	if more < 0 || more > maxMore || more%gained != 0 {
		return nil, api.ErrArg
	}
	l := slices.Clone(path)
	used := setOf(path)
	for missing := more; missing > 0; missing -= gained {
		at, room := b.room(l, used)
		if room == nil {
			return nil, api.ErrNone
		}
		l = slices.Insert(l, at, room...)
		for _, c := range room {
			used[c] = true
		}
	}
	return l, api.OK
}

// Match returns by how many steps each path must be made longer to have as many as the longest one.
func Match(g api.Grid, paths [][]api.XY) ([]int, api.Errno) {
	if _, e := readPaths(g, paths); e != api.OK {
		return nil, e
	}
	longest := 0
	for _, path := range paths {
		longest = max(longest, len(path))
	}
	var l []int
	for _, path := range paths {
		missing := longest - len(path)
		if missing%gained != 0 {
			return nil, api.ErrArg
		}
		l = append(l, missing)
	}
	return l, api.OK
}

// readPath returns the board of a grid, if it and the path are valid.
func readPath(g api.Grid, path []api.XY) (board, api.Errno) {
	return readPaths(g, [][]api.XY{path})
}

// readPaths returns the board of a grid, if it and all the paths are valid and there are not too many.
func readPaths(g api.Grid, paths [][]api.XY) (board, api.Errno) {
	b, e := read(g)
	if e != api.OK {
		return board{}, e
	}
	if len(paths) > api.MaxPaths {
		return board{}, api.ErrLimit
	}
	for _, path := range paths {
		if e := b.check(path); e != api.OK {
			return board{}, e
		}
	}
	return b, api.OK
}

// check returns the error of a path on the board, or OK.
func (b board) check(path []api.XY) api.Errno {
	if !isPath(path) {
		return api.ErrPath
	}
	for _, c := range path {
		if !b.has(c) {
			return api.ErrBlock
		}
	}
	return api.OK
}

// isPath reports whether cells could be a path on a grid without limits.
func isPath(path []api.XY) bool {
	if !fits(path) || len(setOf(path)) < len(path) {
		return false
	}
	for i := range len(path) - 1 {
		if wayTo(path[i], path[i+1]) == none {
			return false
		}
	}
	return true
}

// fits reports whether a path may have as many cells as there are.
func fits(path []api.XY) bool {
	return len(path) >= 1 && len(path) <= api.MaxSteps
}

// setOf returns the set of the cells of a path.
func setOf(path []api.XY) map[api.XY]bool {
	set := map[api.XY]bool{}
	for _, c := range path {
		set[c] = true
	}
	return set
}

// waysOf returns the directions of the steps of a path.
func waysOf(path []api.XY) []int {
	var l []int
	for i := range len(path) - 1 {
		l = append(l, wayTo(path[i], path[i+1]))
	}
	return l
}

// wayTo returns the direction from a cell to its neighbour, or none if the other one is no neighbour.
func wayTo(from, to api.XY) int {
	switch {
	case from.Y == to.Y && follows(from.X, to.X):
		return 0
	case from.X == to.X && follows(from.Y, to.Y):
		return 1
	case from.Y == to.Y && follows(to.X, from.X):
		return 2
	case from.X == to.X && follows(to.Y, from.Y):
		return 3
	}
	return none
}

// follows reports whether b is a + 1.
func follows(a, b int) bool {
	// The greatest number of all plus 1 wraps around to the least one, which does not follow it.
	return a < b && b-a == 1
}

// room returns the first place of a path where two cells can be put between
// two others, and these two cells; no cells if there is no such place.
func (b board) room(path []api.XY, used map[api.XY]bool) (int, []api.XY) {
	for i, way := range waysOf(path) {
		for _, side := range []int{left, right} {
			out := turnedBy(way, side)
			near, far := beside(path[i], out), beside(path[i+1], out)
			if b.has(near) && b.has(far) && !used[near] && !used[far] {
				return i + 1, []api.XY{near, far}
			}
		}
	}
	return 0, nil
}
