package heat

import "photonmesh/api"

// list is a list of up to MaxHeat numbers, and zeros behind them.
type list [api.MaxHeat]int

// held returns a copy of at most MaxHeat numbers.
func held(l []int) list {
	var h list
	copy(h[:], l)
	return h
}

// sum returns the sum of the numbers.
func (l list) sum() int {
	total := 0
	for _, x := range l {
		total += x
	}
	return total
}

// square is a matrix of n rows, and zeros around them.
type square struct {
	n int
	e [api.MaxHeat]list
}

// times returns what the matrix makes of a list.
func (s square) times(l list) list {
	var result list
	for i := range s.n {
		for k := range s.n {
			result[i] += s.e[i][k] * l[k]
		}
	}
	return result
}

// column returns a column of the matrix.
func (s square) column(k int) list {
	var l list
	for i := range s.n {
		l[i] = s.e[i][k]
	}
	return l
}

// with returns the matrix with another column at k.
func (s square) with(k int, column list) square {
	for i := range s.n {
		s.e[i][k] = column[i]
	}
	return s
}

// minor returns the matrix without its first row and the column k.
func (s square) minor(k int) square {
	m := square{n: s.n - 1}
	for i := range m.n {
		copy(m.e[i][:k], s.e[i+1][:k])
		copy(m.e[i][k:], s.e[i+1][k+1:])
	}
	return m
}

// det returns the determinant. With at most one column of phases it is far within
// 64 bits, also on the way: there are 120 products of at most 1.6 * 10^15.
func (s square) det() int {
	if s.n == 0 {
		return 1
	}
	total, sign := 0, 1
	for k := range s.n {
		total += sign * s.e[0][k] * s.minor(k).det()
		sign = -sign
	}
	return total
}

// bank is a valid bank: its matrix, and for each row the sum of the absolute values in it.
type bank struct {
	square
	reach list
}

// read returns b as a bank, or ErrHeat.
func read(b api.Bank) (bank, api.Errno) {
	if !Valid(b) {
		return bank{}, api.ErrHeat
	}
	heaters := bank{square: square{n: len(b.Gain)}}
	for i, row := range b.Gain {
		copy(heaters.e[i][:], row)
		for _, gain := range row {
			heaters.reach[i] += size(gain)
		}
	}
	return heaters, api.OK
}

// off returns by how much more than wanted powers turn each guide.
func (b bank) off(want, powers list) list {
	l := b.times(powers)
	for i := range l {
		l[i] -= want[i]
	}
	return l
}
