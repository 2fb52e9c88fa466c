package benes

import "slices"

const single = 2 // ports of the network that is a single switch

// parts is a list with one element for each switch of a network, parted as the network is.
type parts[T any] struct {
	first, last []T
	halves      [2][]T // those of the upper network, and of the lower one
}

// part returns the parts of a list for a network that is not a single switch. They share the memory of the list.
func part[T any](n int, l []T) parts[T] {
	outer, inner := l[:n], l[n:]
	return parts[T]{
		first:  outer[:n/2],
		last:   outer[n/2:],
		halves: [2][]T{inner[:len(inner)/2], inner[len(inner)/2:]},
	}
}

// joined returns a new list that has these parts.
func (p parts[T]) joined() []T {
	return slices.Concat(p.first, p.last, p.halves[0], p.halves[1])
}

// mirror returns a list with the elements of the first and the last switches of every network exchanged.
func mirror[T any](n int, l []T) []T {
	if n == single {
		return slices.Clone(l)
	}
	p := part(n, l)
	p.first, p.last = p.last, p.first
	for k, half := range p.halves {
		p.halves[k] = mirror(n/2, half)
	}
	return p.joined()
}

// count returns how many switches a network has.
func count(n int) int {
	if n == single {
		return 1
	}
	return n + 2*count(n/2)
}

// depth returns how many switches light meets on its way.
func depth(n int) int {
	if n == single {
		return 1
	}
	return depth(n/2) + 2
}

// unit is a switch with its index in the settings of the whole network.
type unit struct {
	index  int
	turned bool
}

// passed returns to which of its outputs, 0 or 1, a switch sends light of one of its inputs.
func (u unit) passed(input int) int {
	if u.turned {
		return 1 - input
	}
	return input
}

// numbered returns the switches of a whole network.
func numbered(settings []bool) []unit {
	var l []unit
	for i, turned := range settings {
		l = append(l, unit{index: i, turned: turned})
	}
	return l
}

// follow returns the indexes of the switches that light of an input meets, and the output where it comes out.
func follow(n int, switches []unit, input int) ([]int, int) {
	if n == single {
		only := switches[0]
		return []int{only.index}, only.passed(input)
	}
	p := part(n, switches)
	first := p.first[input/2]
	half := first.passed(input % 2)
	between, output := follow(n/2, p.halves[half], input/2)
	last := p.last[output]
	met := slices.Concat([]int{first.index}, between, []int{last.index})
	return met, 2*output + last.passed(half)
}

// through returns the permutation that settings make.
func through(n int, settings []bool) []int {
	switches := numbered(settings)
	perm := make([]int, n)
	for input := range perm {
		_, perm[input] = follow(n, switches, input)
	}
	return perm
}
