package benes

import (
	"iter"
	"slices"
)

// choice is a way to set the first and the last switches for a permutation, and
// the permutations that are then left to the upper network and the lower one.
type choice struct {
	first, last []bool
	perms       [2][]int
}

// ways returns how many settings make a permutation and agree with stuck switches.
func ways(perm, stuck []int) int {
	if len(perm) == single {
		if agree(only(perm), stuck) {
			return 1
		}
		return 0
	}
	p := part(len(perm), stuck)
	total := 0
	for c := range choices(perm, p) {
		total += ways(c.perms[0], p.halves[0]) * ways(c.perms[1], p.halves[1])
	}
	return total
}

// around returns settings that make a permutation and agree with stuck switches, and whether there are any.
func around(perm, stuck []int) ([]bool, bool) {
	if len(perm) == single {
		settings := only(perm)
		return settings, agree(settings, stuck)
	}
	p := part(len(perm), stuck)
	for c := range choices(perm, p) {
		upper, ok := around(c.perms[0], p.halves[0])
		if !ok {
			continue
		}
		if lower, ok := around(c.perms[1], p.halves[1]); ok {
			made := parts[bool]{first: c.first, last: c.last, halves: [2][]bool{upper, lower}}
			return made.joined(), true
		}
	}
	return nil, false
}

// only returns the settings of a single switch that make a permutation.
func only(perm []int) []bool {
	return []bool{perm[0] == 1}
}

// agree reports whether switches that are stuck are set as they are stuck.
func agree(settings []bool, stuck []int) bool {
	for i, kind := range stuck {
		if kind != works && settings[i] != (kind == always) {
			return false
		}
	}
	return true
}

// choices yields the choices that there are for a permutation, without those that do not agree with stuck switches.
func choices(perm []int, stuck parts[int]) iter.Seq[choice] {
	return func(yield func(choice) bool) {
		loops := loopsOf(perm)
		for number := range 1 << len(loops) {
			c := choiceOf(perm, loops, number)
			if agree(c.first, stuck.first) && agree(c.last, stuck.last) && !yield(c) {
				return
			}
		}
	}
}

// loopsOf returns the inputs in loops in which the light of every two neighbours
// (and that of the last one and the first one) meets at a first or a last switch,
// so that it goes through different halves. Nothing ties the loops to each other.
func loopsOf(perm []int) [][]int {
	sources := make([]int, len(perm))
	for input, output := range perm {
		sources[output] = input
	}
	seen := make([]bool, len(perm))
	var loops [][]int
	for start := range perm {
		var loop []int
		for input := start; !seen[input]; {
			other := partner(input)
			seen[input], seen[other] = true, true
			loop = append(loop, input, other)
			input = sources[partner(perm[other])]
		}
		if len(loop) > 0 {
			loops = append(loops, loop)
		}
	}
	return loops
}

// partner returns the other port of the outer switch to which a port belongs.
func partner(port int) int {
	return port ^ 1
}

// choiceOf returns the choice in which the bits of a number say through which half the light of the first input of each loop goes.
func choiceOf(perm []int, loops [][]int, number int) choice {
	size := len(perm) / 2
	c := choice{
		first: make([]bool, size),
		last:  make([]bool, size),
		perms: [2][]int{make([]int, size), make([]int, size)},
	}
	for i, loop := range loops {
		for k, input := range loop {
			half := (number>>i + k) % 2
			output := perm[input]
			c.first[input/2] = half != input%2
			c.last[output/2] = half != output%2
			c.perms[half][input/2] = output / 2
		}
	}
	return c
}

// permutations returns all permutations of n.
func permutations(n int) [][]int {
	l := [][]int{nil}
	for output := range n {
		var longer [][]int
		for _, perm := range l {
			for input := range output + 1 {
				longer = append(longer, slices.Insert(slices.Clone(perm), input, output))
			}
		}
		l = longer
	}
	return l
}
