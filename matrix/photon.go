package matrix

import (
	"slices"

	"photonmesh/amp"
	"photonmesh/api"
)

// pattern is a pattern; modes that a matrix does not have have no photons.
type pattern [api.MaxModes]int

// Permanent returns the permanent of m.
func Permanent(m api.Matrix) (api.Num, api.Errno) {
	x, e := read(m)
	if e != api.OK {
		return api.Num{}, e
	}
	return x.exact().permanent()
}

// Amplitude returns the permanent of the matrix of the patterns in and out.
func Amplitude(m api.Matrix, in, out []int) (api.Num, api.Errno) {
	x, e := read(m)
	if e != api.OK {
		return api.Num{}, e
	}
	if len(in) != x.n || len(out) != x.n {
		return api.Num{}, api.ErrSize
	}
	first, ok := readPattern(in)
	last, fits := readPattern(out)
	if !ok || !fits {
		return api.Num{}, api.ErrArg
	}
	columns, rows := first.modes(), last.modes()
	if len(columns) != len(rows) {
		return api.Num{}, api.ErrArg
	}
	return x.chosen(rows, columns).exact().permanent()
}

// Chance returns the Power of the Amplitude, and the number by which it must be
// divided to get the chance that photons that go in by in come out by out.
func Chance(m api.Matrix, in, out []int) (api.Num, int, api.Errno) {
	z, e := Amplitude(m, in, out)
	if e != api.OK {
		return api.Num{}, 0, e
	}
	power, e := amp.Power(z)
	if e != api.OK {
		return api.Num{}, 0, e
	}
	return power, factorials(in) * factorials(out), api.OK
}

// Patterns returns all patterns of so many photons, in descending order.
func Patterns(modes, photons int) ([][]int, api.Errno) {
	if modes < 1 || modes > api.MaxModes || photons < 0 || photons > api.MaxLight {
		return nil, api.ErrArg
	}
	var p, last pattern
	p[0], last[modes-1] = photons, photons
	l := [][]int{slices.Clone(p[:modes])}
	for p != last {
		p = p.next(modes)
		l = append(l, slices.Clone(p[:modes]))
	}
	return l, api.OK
}

// readPattern returns the pattern of a list of at most MaxModes numbers, and whether it is one.
func readPattern(l []int) (pattern, bool) {
	var p pattern
	photons := 0
	for mode, n := range l {
		if n < 0 || n > api.MaxLight-photons {
			return pattern{}, false
		}
		photons += n
		p[mode] = n
	}
	return p, true
}

// modes returns the modes of all photons of a pattern.
func (p pattern) modes() []int {
	var l []int
	for mode, n := range p {
		for range n {
			l = append(l, mode)
		}
	}
	return l
}

// next returns the pattern that follows in descending order; there must be one.
func (p pattern) next(modes int) pattern {
	mode := modes - 2
	for p[mode] == 0 {
		mode--
	}
	// One photon moves on, and those of the last mode go with it, to be as far ahead as they can.
	rest := p[modes-1]
	p[modes-1] = 0
	p[mode]--
	p[mode+1] = rest + 1
	return p
}

// chosen returns the matrix of these rows and columns of m, of which there are equally many.
func (m numbers) chosen(rows, columns []int) numbers {
	c := numbers{shape: shape{len(rows)}}
	for _, row := range rows {
		for _, column := range columns {
			c.e = append(c.e, m.e[m.at(row, column)])
		}
	}
	return c
}

// factorials returns the product of the factorials of the numbers of a pattern.
func factorials(l []int) int {
	product := 1
	for _, n := range l {
		for i := range n {
			product *= i + 1
		}
	}
	return product
}
