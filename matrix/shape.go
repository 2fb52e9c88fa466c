package matrix

import (
	"photonmesh/amp"
	"photonmesh/api"
)

// shape is what all matrices here have in common: n rows, whose elements follow each other.
type shape struct {
	n int
}

// at returns the index of an element.
func (s shape) at(row, column int) int {
	return row*s.n + column
}

// identity returns an element of the identity.
func (s shape) identity(row, column int) (api.Num, api.Errno) {
	if row == column {
		return api.Num{A: [4]int{1}}, api.OK
	}
	return api.Num{}, api.OK
}

// numbers is a matrix of valid numbers; that of two patterns may have no row.
type numbers struct {
	shape
	e []api.Num
}

// read returns m as numbers, or ErrMatrix.
func read(m api.Matrix) (numbers, api.Errno) {
	if !Valid(m) {
		return numbers{}, api.ErrMatrix
	}
	return numbers{shape{m.N}, m.E}, api.OK
}

// element returns an element of the matrix.
func (m numbers) element(row, column int) (api.Num, api.Errno) {
	return m.e[m.at(row, column)], api.OK
}

// mirrored returns an element of the transpose.
func (m numbers) mirrored(row, column int) (api.Num, api.Errno) {
	return m.element(column, row)
}

// adjoint returns an element of the conjugate of the transpose.
func (m numbers) adjoint(row, column int) (api.Num, api.Errno) {
	return amp.Conj(m.e[m.at(column, row)])
}

// power returns the Power of an element.
func (m numbers) power(row, column int) (api.Num, api.Errno) {
	return amp.Power(m.e[m.at(row, column)])
}

// row returns a row.
func (m numbers) row(row int) []api.Num {
	return m.e[m.at(row, 0):m.at(row+1, 0)]
}

// column returns a copy of a column.
func (m numbers) column(column int) []api.Num {
	var l []api.Num
	for row := range m.n {
		l = append(l, m.e[m.at(row, column)])
	}
	return l
}

// exponent returns the greatest exponent of the elements.
func (m numbers) exponent() int {
	greatest := 0
	for _, z := range m.e {
		greatest = max(greatest, z.K)
	}
	return greatest
}

// pair are two matrices from which one is made.
type pair struct {
	left, right numbers
}

// readBoth returns a and b, or ErrMatrix.
func readBoth(a, b api.Matrix) (pair, api.Errno) {
	left, e := read(a)
	if e != api.OK {
		return pair{}, e
	}
	right, e := read(b)
	if e != api.OK {
		return pair{}, e
	}
	return pair{left, right}, api.OK
}

// readEqual returns a and b, or ErrMatrix, or ErrSize if they have different sizes.
func readEqual(a, b api.Matrix) (pair, api.Errno) {
	p, e := readBoth(a, b)
	if e == api.OK && p.left.n != p.right.n {
		return pair{}, api.ErrSize
	}
	return p, e
}

// product returns an element of the product.
func (p pair) product(row, column int) (api.Num, api.Errno) {
	return dot(p.left.row(row), p.right.column(column))
}

// beside returns an element of the matrix with the two in its corners.
func (p pair) beside(row, column int) (api.Num, api.Errno) {
	n := p.left.n
	switch {
	case row < n && column < n:
		return p.left.element(row, column)
	case row >= n && column >= n:
		return p.right.element(row-n, column-n)
	}
	return api.Num{}, api.OK
}

// filled returns the matrix of n rows with these elements, or the first error of one.
func filled(n int, element func(row, column int) (api.Num, api.Errno)) (api.Matrix, api.Errno) {
	var l []api.Num
	for row := range n {
		for column := range n {
			z, e := element(row, column)
			if e != api.OK {
				return api.Matrix{}, e
			}
			l = append(l, z)
		}
	}
	return api.Matrix{N: n, E: l}, api.OK
}

// dot returns the sum of the products of the elements of two lists of equal length.
func dot(x, y []api.Num) (api.Num, api.Errno) {
	var l []api.Num
	for i := range x {
		p, e := amp.Mul(x[i], y[i])
		if e != api.OK {
			return api.Num{}, e
		}
		l = append(l, p)
	}
	return amp.Sum(l)
}
