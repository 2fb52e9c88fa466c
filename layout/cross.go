package layout

import "photonmesh/api"

// use is how a path uses a cell: the directions of the steps into it and out of it, none at an end.
type use struct {
	path, in, out int
}

// crossing is a cell where two paths cross, the lower index first.
type crossing struct {
	at    api.XY
	paths [2]int
}

// Together returns the crossings of paths that go together.
func Together(g api.Grid, paths [][]api.XY) ([]api.XY, api.Errno) {
	crossings, e := crossingsOf(g, paths)
	if e != api.OK {
		return nil, e
	}
	var l []api.XY
	for _, x := range crossings {
		l = append(l, x.at)
	}
	return l, api.OK
}

// Crossed returns how often each two paths cross that do so.
func Crossed(g api.Grid, paths [][]api.XY) ([][3]int, api.Errno) {
	crossings, e := crossingsOf(g, paths)
	if e != api.OK {
		return nil, e
	}
	times := map[[2]int]int{}
	for _, x := range crossings {
		times[x.paths]++
	}
	var l [][3]int
	for k := range paths {
		for m := range paths {
			if n := times[[2]int{k, m}]; n > 0 {
				l = append(l, [3]int{k, m, n})
			}
		}
	}
	return l, api.OK
}

// Rim returns the place of a cell in the order of the rim.
func Rim(g api.Grid, c api.XY) (int, bool, api.Errno) {
	b, e := read(g)
	if e != api.OK {
		return 0, false, e
	}
	if !isOn(g, c) {
		return 0, false, api.ErrBlock
	}
	place, ok := b.place(c)
	return place, ok, api.OK
}

// Must reports whether paths from a to b and from c to d must cross.
func Must(g api.Grid, a, b, c, d api.XY) (bool, api.Errno) {
	field, e := read(g)
	if e != api.OK {
		return false, e
	}
	var places []int
	onRim := map[api.XY]bool{}
	ends := []api.XY{a, b, c, d}
	for _, end := range ends {
		if !isOn(g, end) {
			return false, api.ErrBlock
		}
		if place, ok := field.place(end); ok {
			places = append(places, place)
			onRim[end] = true
		}
	}
	if len(onRim) < len(ends) {
		return false, api.ErrArg
	}
	least, most := min(places[0], places[1]), max(places[0], places[1])
	between := func(place int) bool { return place > least && place < most }
	return between(places[2]) != between(places[3]), api.OK
}

// place returns the place of a cell of the grid on the rim, and whether it has one.
func (b board) place(c api.XY) (int, bool) {
	lastX, lastY := b.W-1, b.H-1
	// A corner belongs to two sides, and a cell of a grid of one row or column
	// to opposite ones: the side that the order reaches first counts.
	switch {
	case c.Y == 0:
		return c.X, true
	case c.X == lastX:
		return lastX + c.Y, true
	case c.Y == lastY:
		return lastX + lastY + lastX - c.X, true
	case c.X == 0:
		return lastX + lastY + lastX + lastY - c.Y, true
	}
	return 0, false
}

// crossingsOf returns the crossings of paths, in the order of their cells, if the paths go together.
func crossingsOf(g api.Grid, paths [][]api.XY) ([]crossing, api.Errno) {
	b, e := readPaths(g, paths)
	if e != api.OK {
		return nil, e
	}
	uses := usesOf(paths)
	var l []crossing
	for _, c := range b.cells() {
		if len(uses[c]) < 2 {
			continue
		}
		if !areCrossing(uses[c]) {
			return nil, api.ErrClash
		}
		l = append(l, crossing{at: c, paths: [2]int{uses[c][0].path, uses[c][1].path}})
	}
	return l, api.OK
}

// usesOf returns how each cell is used, in the order of the paths.
func usesOf(paths [][]api.XY) map[api.XY][]use {
	uses := map[api.XY][]use{}
	for k, path := range paths {
		in := none
		for i, out := range append(waysOf(path), none) {
			uses[path[i]] = append(uses[path[i]], use{path: k, in: in, out: out})
			in = out
		}
	}
	return uses
}

// areCrossing reports whether the paths that use a cell cross there as they may.
func areCrossing(l []use) bool {
	return len(l) == 2 && l[0].isStraight() && l[1].isStraight() && l[0].in%2 != l[1].in%2
}

// isStraight reports whether a path goes through without a bend.
func (u use) isStraight() bool {
	return u.in != none && u.in == u.out
}
