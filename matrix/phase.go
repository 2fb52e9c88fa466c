package matrix

import (
	"photonmesh/amp"
	"photonmesh/api"
)

// circle is how many powers of w there are.
const circle = 8

// none stands for a turn that may be any, or is not known yet.
const none = -1

// phases is a matrix of turns: from 0 to 7, or none where any turn will do.
type phases struct {
	shape
	turns []int
}

// Monomial returns, for a monomial matrix, the row and the turn of the element of each column, and true.
func Monomial(m api.Matrix) (perm, turns []int, ok bool, err api.Errno) {
	x, e := read(m)
	if e != api.OK {
		return nil, nil, false, e
	}
	var used [api.MaxModes]bool
	for column := range x.n {
		row, turn, ok := only(x.column(column))
		// If no two columns have the same row, every row has one element.
		if !ok || used[row] {
			return nil, nil, false, api.OK
		}
		used[row] = true
		perm = append(perm, row)
		turns = append(turns, turn)
	}
	return perm, turns, true, api.OK
}

// Alike reports whether powers of w for the rows and for the columns make b of a.
func Alike(a, b api.Matrix) (bool, api.Errno) {
	p, e := readEqual(a, b)
	if e != api.OK {
		return false, e
	}
	f, ok := p.phases()
	return ok && f.split(), api.OK
}

// only returns the place and the turn of the only element of a list that is not
// 0, and whether there is just one and it is a power of w.
func only(l []api.Num) (place, turn int, ok bool) {
	place = none
	for i, z := range l {
		if z == (api.Num{}) {
			continue
		}
		if place != none {
			return 0, 0, false
		}
		place = i
	}
	if place == none {
		return 0, 0, false
	}
	turn, ok = turned(api.Num{A: [4]int{1}}, l[place])
	return place, turn, ok
}

// turned returns the first turn from 0 to 7 that makes y of x, and whether there is one; there is at most one unless both are 0.
func turned(x, y api.Num) (int, bool) {
	for n := range circle {
		if z, e := amp.Turn(x, n); e == api.OK && z == y {
			return n, true
		}
	}
	return 0, false
}

// phases returns the turns that make the right matrix of the left one, and
// whether there is one for each element; a turn of 0 may be any.
func (p pair) phases() (phases, bool) {
	f := phases{shape: p.left.shape}
	for i, x := range p.left.e {
		y := p.right.e[i]
		if x == (api.Num{}) && y == x {
			f.turns = append(f.turns, none)
			continue
		}
		n, ok := turned(x, y)
		if !ok {
			return phases{}, false
		}
		f.turns = append(f.turns, n)
	}
	return f, true
}

// split reports whether each turn is the sum of one of its row and one of its column.
func (f phases) split() bool {
	rows, columns := make([]int, f.n), make([]int, f.n)
	for i := range f.n {
		rows[i], columns[i] = none, none
	}
	for row := range f.n {
		// What was found up to now says nothing of this row: any turn of it will do.
		if rows[row] == none {
			rows[row] = 0
			for f.spread(rows, columns) {
			}
		}
	}
	for row := range f.n {
		for column := range f.n {
			n := f.turns[f.at(row, column)]
			if n != none && n != (rows[row]+columns[column])%circle {
				return false
			}
		}
	}
	return true
}

// spread finds turns of rows and columns by turns of elements, and reports whether it has found any.
func (f phases) spread(rows, columns []int) bool {
	found := false
	for row := range f.n {
		for column := range f.n {
			n := f.turns[f.at(row, column)]
			switch {
			case n == none || (rows[row] == none) == (columns[column] == none):
				continue
			case rows[row] == none:
				rows[row] = (n - columns[column] + circle) % circle
			default:
				columns[column] = (n - rows[row] + circle) % circle
			}
			found = true
		}
	}
	return found
}
