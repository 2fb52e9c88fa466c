package synth

import (
	"slices"

	"photonmesh/amp"
	"photonmesh/api"
	"photonmesh/matrix"
	"photonmesh/mesh"
)

// This file programs a unitary matrix: couplers are put behind it that lower the
// exponents of one column after the other to 0.
//
// Take the elements z / r^k of a column whose exponent k is the greatest one, and
// above 0. The squares |z|^2 of all elements with the divisor r^k add up to 2^k,
// which is even. Modulo 2 they are 1 if the coefficients of z add up to an odd number
// (z is called odd), r if they do not (z is even), and 0 for lesser exponents. So the
// number of odd elements is even, and so is that of even ones: both can be joined by
// twos. An even z is another even one, turned, modulo 2. A coupler that gets them
// turned so makes sums and differences that are divisible by 2, and divides by r:
// both exponents fall. So it is with two odd ones that have as many odd coefficients.
// Those of two other ones are one and three: turned so that the sum has four, they
// become even ones with the same exponent.
//
// Each row meets at most 2 couplers while the exponent of a column falls by 1, in
// which time those of other columns rise by at most 2: from 4 (4 rows) to 12, and
// from 12 (3 rows) to 36. With 2 rows both columns have the same exponents, from 40
// on. So no number leaves the range, for elements of unitary matrices, and their
// Flips, are at most 1 in absolute value: no coefficient is greater than 2^20.
// (mesh.MatrixOf divides before it adds: of odd elements with the exponent 40 it has
// ErrLimit for every circuit.)

// greatest is the greatest Exponent that is programmed, for each number of rows from 1 on.
var greatest = [api.MaxMake]int{api.MaxExp, api.MaxExp, 12, 4}

// Program returns flat items that make a unitary matrix.
func Program(m api.Matrix) ([]api.Item, api.Errno) {
	if e := checkProgram(m); e != api.OK {
		return nil, e
	}
	w := work{n: m.N, e: slices.Clone(m.E)}
	for column := range w.n {
		for w.exponent(column) > 0 {
			w.lower(column)
		}
	}
	rest, e := w.rest()
	if e != api.OK {
		return nil, e
	}
	back, e := mesh.Inverse(w.n, w.items)
	if e != api.OK {
		return nil, e
	}
	return mesh.Tidy(w.n, append(rest, back...))
}

// checkProgram returns the error of a matrix that is not programmed.
func checkProgram(m api.Matrix) api.Errno {
	exponent, e := matrix.Exponent(m)
	switch {
	case e != api.OK:
		return e
	case m.N > api.MaxMake || exponent > greatest[m.N-1]:
		return api.ErrLimit
	}
	return checkUnitary(m)
}

// work is what the items that were put behind a unitary matrix of n rows have made of its elements e.
type work struct {
	n     int
	e     []api.Num
	items []api.Item
}

// at returns an element.
func (w *work) at(row, column int) *api.Num {
	return &w.e[row*w.n+column]
}

// exponent returns the greatest exponent of a column.
func (w *work) exponent(column int) int {
	k := 0
	for row := range w.n {
		k = max(k, w.at(row, column).K)
	}
	return k
}

// lower joins two elements of a column that have its exponent, so that they have a lesser one.
func (w *work) lower(column int) {
	k := w.exponent(column)
	row, other := w.pair(column, k)
	for ; other > row+1; other-- {
		w.cross(other - 1)
	}
	for w.at(row, column).K == k {
		w.join(row, column)
	}
}

// pair returns the first row whose element in a column has the exponent k, and the next one with the same height.
func (w *work) pair(column, k int) (row, other int) {
	for w.at(row, column).K != k {
		row++
	}
	other = row + 1
	for height(*w.at(other, column)) != height(*w.at(row, column)) {
		other++
	}
	return row, other
}

// join puts that phase and a coupler behind a row and the next one that lower an element of the row the most.
func (w *work) join(row, column int) {
	best, least := 0, height(*w.at(row, column))
	// Half a turn more only exchanges what comes out at both guides.
	for n := range circle / 2 {
		z, e := mixed(*w.at(row, column), *w.at(row+1, column), n)
		if e == api.OK && height(z) < least {
			best, least = n, height(z)
		}
	}
	// The coupler itself turns what crosses over by a quarter.
	w.turn(row+1, (best+circle-quarter)%circle)
	w.couple(row)
}

// turn puts a phase behind a row.
func (w *work) turn(row, n int) {
	w.items = append(w.items, phase(row+1, n)...)
	for column := range w.n {
		z := w.at(row, column)
		*z, _ = amp.Turn(*z, n)
	}
}

// cross puts a crossing behind a row and the next one.
func (w *work) cross(row int) {
	w.items = append(w.items, api.Item{Kind: api.ItemCross, At: row + 1})
	for column := range w.n {
		x, y := w.at(row, column), w.at(row+1, column)
		*x, *y = *y, *x
	}
}

// couple puts a coupler behind a row and the next one.
func (w *work) couple(row int) {
	w.items = append(w.items, api.Item{Kind: api.ItemCouple, At: row + 1})
	for column := range w.n {
		x, y := *w.at(row, column), *w.at(row+1, column)
		*w.at(row, column), _ = mixed(x, y, quarter)
		*w.at(row+1, column), _ = mixed(y, x, quarter)
	}
}

// rest returns items that make what is left when all exponents are 0. It has just one element other
// than 0 in each row and column, a power of w: whole sums whose squares add up to 1.
func (w *work) rest() ([]api.Item, api.Errno) {
	perm, turns, _, e := matrix.Monomial(api.Matrix{N: w.n, E: w.e})
	if e != api.OK {
		return nil, e
	}
	l, e := Diagonal(turns)
	if e != api.OK {
		return nil, e
	}
	crossings, e := Crossings(perm)
	return append(l, crossings...), e
}

// mixed returns (x + y w^n) / r for elements of a unitary matrix: only the division may leave the range.
func mixed(x, y api.Num, n int) (api.Num, api.Errno) {
	turned, _ := amp.Turn(y, n)
	sum, _ := amp.Add(x, turned)
	return amp.Halve(sum, 1)
}

// height returns the exponent that the Power of a number with an exponent above 0 has, which may be out of range.
func height(z api.Num) int {
	if (z.A[0]+z.A[1]+z.A[2]+z.A[3])%2 == 0 {
		return 2*z.K - 1
	}
	return 2 * z.K
}
