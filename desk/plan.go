package desk

import (
	"slices"
	"strconv"
	"strings"

	"photonmesh/amp"
	"photonmesh/api"
	"photonmesh/layout"
	"photonmesh/matrix"
	"photonmesh/mesh"
	"photonmesh/probe"
	"photonmesh/synth"
)

const (
	side = 20   // cells of a side of the grid
	move = 10   // the cost of a step
	bend = 5    // the cost of a bend
	done = "ok" // the answer of deeds that have nothing else to say
)

// plan is what lines have made. A deed returns a new one and leaves the old one
// as it is, for that remains if the line cannot be put into the log.
type plan struct {
	cells []api.Cell
	grid  api.Grid
	tests []api.Test
}

// begun returns the plan without any line.
func begun() plan {
	return plan{grid: api.Grid{W: side, H: side, Move: move, Bend: bend}}
}

// cell adds the cell whose text the line is.
func (p plan) cell(words []string) (plan, string, api.Errno) {
	if p.has(words[0]) {
		return plan{}, "", api.ErrThere
	}
	// No cells have no text, and Format returns none.
	text, _ := mesh.Format(p.cells)
	cells, e := mesh.Parse(text + "cell " + strings.Join(words, " ") + "\n")
	if e != api.OK {
		return plan{}, "", e
	}
	p.cells = cells
	return p, done, api.OK
}

// permute adds a cell with the crossings of a permutation.
func (p plan) permute(words []string) (plan, string, api.Errno) {
	if e := p.free(words[0]); e != api.OK {
		return plan{}, "", e
	}
	perm := numbers(words[1:])
	items, e := synth.Crossings(perm)
	if e != api.OK {
		return plan{}, "", e
	}
	return p.added(api.Cell{Name: words[0], Guides: len(perm), Items: items})
}

// invert adds a cell with the inverse of the flat items of another one.
func (p plan) invert(words []string) (plan, string, api.Errno) {
	if e := p.free(words[0]); e != api.OK {
		return plan{}, "", e
	}
	net, e := p.circuit(words[1])
	if e != api.OK {
		return plan{}, "", e
	}
	items, e := mesh.Flat(net)
	if e != api.OK {
		return plan{}, "", e
	}
	guides := net[len(net)-1].Guides
	items, e = mesh.Inverse(guides, items)
	if e != api.OK {
		return plan{}, "", e
	}
	return p.added(api.Cell{Name: words[0], Guides: guides, Items: items})
}

// block blocks a cell of the grid.
func (p plan) block(words []string) (plan, string, api.Errno) {
	at := numbers(words)
	c := api.XY{X: at[0], Y: at[1]}
	switch {
	case c.X >= side || c.Y >= side:
		return plan{}, "", api.ErrArg
	case slices.Contains(p.grid.Blocked, c):
		return plan{}, "", api.ErrThere
	}
	p.grid.Blocked = append(slices.Clone(p.grid.Blocked), c)
	return p, done, api.OK
}

// test adds a test, and answers how many states are left.
func (p plan) test(words []string) (plan, string, api.Errno) {
	ports := numbers(words[1:])
	t := api.Test{Turned: turned(words[0]), In: ports[0], Out: ports[1]}
	switch {
	case t.In >= api.MaxKnown || t.Out >= api.MaxKnown:
		return plan{}, "", api.ErrArg
	case len(p.tests) == api.MaxTests:
		return plan{}, "", api.ErrLimit
	}
	p.tests = append(slices.Clone(p.tests), t)
	left, e := probe.Left(api.MaxKnown, p.tests)
	switch {
	case e != api.OK:
		return plan{}, "", e
	case len(left) == 0:
		return plan{}, "", api.ErrNone
	}
	return p, strconv.Itoa(len(left)), api.OK
}

// same answers whether the matrices of two cells are equal.
func (p plan) same(words []string) (string, api.Errno) {
	var circuits [][]api.Cell
	for _, name := range words {
		net, e := p.circuit(name)
		if e != api.OK {
			return "", e
		}
		circuits = append(circuits, net)
	}
	a, e := mesh.Matrix(circuits[0])
	if e != api.OK {
		return "", e
	}
	b, e := mesh.Matrix(circuits[1])
	if e != api.OK {
		return "", e
	}
	// Every number has one form, so that equal numbers are equal structs.
	if slices.Equal(a.E, b.E) {
		return "yes", api.OK
	}
	return "no", api.OK
}

// chance answers the chance that photons which go in by a pattern come out by another one.
func (p plan) chance(words []string) (string, api.Errno) {
	_, m, e := p.light(words[0])
	if e != api.OK {
		return "", e
	}
	power, by, e := matrix.Chance(m, digits(words[1]), digits(words[2]))
	if e != api.OK {
		return "", e
	}
	text, e := amp.Format(power)
	if e != api.OK {
		return "", e
	}
	return text + " " + strconv.Itoa(by), api.OK
}

// route answers the cost of the cheapest route between two cells of the grid.
func (p plan) route(words []string) (string, api.Errno) {
	at := numbers(words)
	_, cost, e := layout.Route(p.grid, api.XY{X: at[0], Y: at[1]}, api.XY{X: at[2], Y: at[3]})
	if e != api.OK {
		return "", e
	}
	return strconv.Itoa(cost), api.OK
}

// least answers how many couplers the matrix of a cell needs at least, and how many the cell has.
func (p plan) least(words []string) (string, api.Errno) {
	net, m, e := p.light(words[0])
	if e != api.OK {
		return "", e
	}
	items, e := mesh.Flat(net)
	if e != api.OK {
		return "", e
	}
	least, e := synth.Least(m)
	if e != api.OK {
		return "", e
	}
	couplers := 0
	for _, x := range items {
		if x.Kind == api.ItemCouple {
			couplers++
		}
	}
	return strconv.Itoa(least) + " " + strconv.Itoa(couplers), api.OK
}

// has reports whether there is a cell with this name.
func (p plan) has(name string) bool {
	_, e := p.circuit(name)
	return e == api.OK
}

// free returns ErrForm if this is no name, ErrThere if there is a cell with it, or OK.
func (p plan) free(name string) api.Errno {
	switch {
	case !isName(name):
		return api.ErrForm
	case p.has(name):
		return api.ErrThere
	}
	return api.OK
}

// circuit returns the netlist that ends with the cell of this name, or ErrNone.
func (p plan) circuit(name string) ([]api.Cell, api.Errno) {
	for i, c := range p.cells {
		if c.Name == name {
			return p.cells[:i+1], api.OK
		}
	}
	return nil, api.ErrNone
}

// light returns the netlist that ends with the cell of this name, and the cell's matrix.
func (p plan) light(name string) ([]api.Cell, api.Matrix, api.Errno) {
	net, e := p.circuit(name)
	if e != api.OK {
		return nil, api.Matrix{}, e
	}
	m, e := mesh.Matrix(net)
	return net, m, e
}

// added adds a cell, and answers how many items it has.
func (p plan) added(c api.Cell) (plan, string, api.Errno) {
	p.cells = append(slices.Clone(p.cells), c)
	if _, e := mesh.Format(p.cells); e != api.OK {
		return plan{}, "", e
	}
	return p, strconv.Itoa(len(c.Items)), api.OK
}
