package mesh

import (
	"photonmesh/amp"
	"photonmesh/api"
	"photonmesh/matrix"
)

// Matrix returns the matrix of the circuit, formed of those of its cells.
func Matrix(net []api.Cell) (api.Matrix, api.Errno) {
	if !Valid(net) {
		return api.Matrix{}, api.ErrNet
	}
	made := map[string]api.Matrix{}
	for _, c := range net {
		m, e := product(c.Guides, c.Items, made)
		if e != api.OK {
			return api.Matrix{}, e
		}
		made[c.Name] = m
	}
	return made[net[len(net)-1].Name], api.OK
}

// MatrixOf returns the matrix of flat items.
func MatrixOf(n int, l []api.Item) (api.Matrix, api.Errno) {
	if e := check(n, l); e != api.OK {
		return api.Matrix{}, e
	}
	return product(n, l, nil)
}

// Light returns what the amplitudes of v become in flat items.
func Light(n int, l []api.Item, v []api.Num) ([]api.Num, api.Errno) {
	if e := check(n, l); e != api.OK {
		return nil, e
	}
	m, e := matrix.Identity(n)
	if e != api.OK {
		return nil, e
	}
	// The identity changes nothing, but it says what is wrong with v.
	light, e := matrix.Apply(m, v)
	for _, x := range l {
		if e != api.OK {
			return nil, e
		}
		light, e = matrix.Apply(spread(n, x.At, own(x, nil)), light)
	}
	return light, e
}

// product returns the product of the matrices of valid items on n guides, the
// first one on the right; cells has those of the cells.
func product(n int, l []api.Item, cells map[string]api.Matrix) (api.Matrix, api.Errno) {
	m, e := matrix.Identity(n)
	for _, x := range l {
		if e != api.OK {
			return api.Matrix{}, e
		}
		m, e = matrix.Mul(spread(n, x.At, own(x, cells)), m)
	}
	return m, e
}

// own returns the matrix of an item on its own guides.
func own(x api.Item, cells map[string]api.Matrix) api.Matrix {
	one := api.Num{A: [4]int{1}}
	switch x.Kind {
	case api.ItemPhase:
		turned, _ := amp.Turn(one, x.N)
		return api.Matrix{N: 1, E: []api.Num{turned}}
	case api.ItemCouple:
		through := api.Num{A: [4]int{1}, K: 1}
		over := api.Num{A: [4]int{0, 0, 1}, K: 1}
		return api.Matrix{N: 2, E: []api.Num{through, over, over, through}}
	case api.ItemCross:
		return api.Matrix{N: 2, E: []api.Num{{}, one, one, {}}}
	}
	return cells[x.Name]
}

// spread returns the matrix on n guides that is small on those from at on, and has 1 on the others.
func spread(n, at int, small api.Matrix) api.Matrix {
	m, _ := matrix.Identity(n)
	for row := range small.N {
		for column := range small.N {
			m.E[(at-1+row)*n+at-1+column] = small.E[row*small.N+column]
		}
	}
	return m
}
