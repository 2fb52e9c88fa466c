package heat

import "photonmesh/api"

// maxPart is the absolute value of the parts of a ratio that Round takes.
const maxPart = 1000000000000000000

// Det returns the determinant of the bank.
func Det(b api.Bank) (int, api.Errno) {
	heaters, e := read(b)
	if e != api.OK {
		return 0, e
	}
	return heaters.det(), api.OK
}

// Solve returns the only powers, as ratios, that turn the guides by what is wanted.
func Solve(b api.Bank, want []int) ([]api.Ratio, api.Errno) {
	heaters, e := read(b)
	if e != api.OK {
		return nil, e
	}
	if !arePhases(want, heaters.n) {
		return nil, api.ErrArg
	}
	det := heaters.det()
	if det == 0 {
		return nil, api.ErrSingular
	}
	return heaters.solved(held(want), det), api.OK
}

// Inverse returns the inverse of the bank, row by row.
func Inverse(b api.Bank) ([][]api.Ratio, api.Errno) {
	heaters, e := read(b)
	if e != api.OK {
		return nil, e
	}
	det := heaters.det()
	if det == 0 {
		return nil, api.ErrSingular
	}
	rows := make([][]api.Ratio, heaters.n)
	for k := range heaters.n {
		var unit list
		unit[k] = 1
		for i, q := range heaters.solved(unit, det) {
			rows[i] = append(rows[i], q)
		}
	}
	return rows, api.OK
}

// solved returns what the matrix, whose determinant is det, turns into want: by Cramer's rule.
func (s square) solved(want list, det int) []api.Ratio {
	l := make([]api.Ratio, s.n)
	for k := range l {
		l[k] = ratio(s.with(k, want).det(), det)
	}
	return l
}

// Round returns the powers that are nearest to ratios.
func Round(l []api.Ratio) ([]int, api.Errno) {
	if len(l) < 1 || len(l) > api.MaxHeat {
		return nil, api.ErrArg
	}
	for _, q := range l {
		if q.D < 1 || q.D > maxPart || q.N < -maxPart || q.N > maxPart {
			return nil, api.ErrArg
		}
	}
	powers := make([]int, len(l))
	for k, q := range l {
		powers[k] = nearest(q)
	}
	if !arePowers(powers, len(l)) {
		return nil, api.ErrBudget
	}
	return powers, api.OK
}

// nearest returns the whole number nearest to q, of two the greater one.
func nearest(q api.Ratio) int {
	// It is q and a half, rounded down; the parts are small enough for this.
	above, below := 2*q.N+q.D, 2*q.D
	n := above / below
	if above%below < 0 {
		n--
	}
	return n
}

// ratio returns n / d in lowest terms; d is not 0.
func ratio(n, d int) api.Ratio {
	if d < 0 {
		n, d = -n, -d
	}
	common := divisor(size(n), d)
	return api.Ratio{N: n / common, D: d / common}
}

// divisor returns the greatest number that divides both a and b, b being greater than 0.
func divisor(a, b int) int {
	for a != 0 {
		a, b = b%a, a
	}
	return b
}
