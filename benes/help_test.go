package benes_test

import (
	"fmt"
	"math"
	"math/rand"
	"slices"
	"strings"
	"testing"

	"photonmesh/api"
	"photonmesh/benes"
)

// sizes are the ports of all networks, with how many switches they have.
var sizes = map[int]int{2: 1, 4: 6, 8: 20, 16: 56}

// ports are the keys of sizes.
var ports = []int{2, 4, 8, 16}

// notPorts are numbers of ports for which there is no network.
var notPorts = []int{-16, -8, -4, -2, -1, 0, 1, 3, 5, 6, 7, 9, 10, 11, 12, 13, 14, 15, 17, 18, 20, 24, 31, 32, 33, 64, 256, 1 << 32, 1 << 62, math.MinInt, math.MinInt + 1, math.MaxInt}

// bits returns settings from a text of digits; other characters part them.
func bits(text string) []bool {
	var l []bool
	for _, c := range text {
		if c == '0' || c == '1' {
			l = append(l, c == '1')
		}
	}
	return l
}

// turning returns the settings of a network with only these switches turned.
func turning(n int, switches ...int) []bool {
	l := make([]bool, sizes[n])
	for _, s := range switches {
		l[s] = true
	}
	return l
}

// digitsOf returns the digits of a number, the least one first.
func digitsOf(number, base, digits int) []int {
	var l []int
	for range digits {
		l = append(l, number%base)
		number /= base
	}
	return l
}

// setTo returns the settings with the bits of a number.
func setTo(number, switches int) []bool {
	var l []bool
	for _, d := range digitsOf(number, 2, switches) {
		l = append(l, d == 1)
	}
	return l
}

// sent returns the lights at the outputs of a network from those at its inputs, by
// the document's words; it takes the settings that it needs from the rest.
func sent(lights []int, rest *[]bool) []int {
	take := func(n int) []bool {
		l := (*rest)[:n]
		*rest = (*rest)[n:]
		return l
	}
	exchanged := func(a, b int, turned bool) (int, int) {
		if turned {
			return b, a
		}
		return a, b
	}
	if len(lights) == 2 {
		a, b := exchanged(lights[0], lights[1], take(1)[0])
		return []int{a, b}
	}
	first, last := take(len(lights)/2), take(len(lights)/2)
	var upper, lower, out []int
	for j, turned := range first {
		a, b := exchanged(lights[2*j], lights[2*j+1], turned)
		upper, lower = append(upper, a), append(lower, b)
	}
	upper = sent(upper, rest)
	lower = sent(lower, rest)
	for j, turned := range last {
		a, b := exchanged(upper[j], lower[j], turned)
		out = append(out, a, b)
	}
	return out
}

// made returns the permutation that settings make, by the document's words.
func made(n int, settings []bool) []int {
	rest := settings
	return inverse(sent(identity(n), &rest))
}

// identity returns the numbers from 0 on.
func identity(n int) []int {
	var l []int
	for k := range n {
		l = append(l, k)
	}
	return l
}

// inverse returns the inverse permutation.
func inverse(perm []int) []int {
	l := make([]int, len(perm))
	for k, output := range perm {
		l[output] = k
	}
	return l
}

// allPermutations returns the permutations of n, of which there are not too many.
func allPermutations(n int) [][]int {
	var l [][]int
	var extend func(perm []int)
	extend = func(perm []int) {
		if len(perm) == n {
			l = append(l, slices.Clone(perm))
		}
		for k := range n {
			if !slices.Contains(perm, k) {
				extend(append(perm, k))
			}
		}
	}
	extend(nil)
	return l
}

// somePermutations returns permutations of n: all of them if there are few, else
// those of an order, and others drawn at random.
func somePermutations(r *rand.Rand, n, more int) [][]int {
	if n <= 4 {
		return allPermutations(n)
	}
	backwards := identity(n)
	slices.Reverse(backwards)
	l := [][]int{identity(n), backwards}
	for by := 1; by < n; by++ {
		shifted, flipped, spread := make([]int, n), make([]int, n), make([]int, n)
		for k := range n {
			shifted[k], flipped[k], spread[k] = (k+by)%n, k^by, k*(2*by+1)%n
		}
		l = append(l, shifted, flipped, spread)
	}
	half := make([]int, n)
	for k := range n {
		half[k] = k/2 + k%2*(n/2)
	}
	l = append(l, half, inverse(half))
	for range more {
		l = append(l, r.Perm(n))
	}
	return l
}

// someSettings returns settings of a network: all of them if there are few, else
// those with one switch or all but one turned, and others drawn at random.
func someSettings(r *rand.Rand, n, more int) [][]bool {
	var l [][]bool
	if n <= 4 {
		for number := range 1 << sizes[n] {
			l = append(l, setTo(number, sizes[n]))
		}
		return l
	}
	for s := range sizes[n] {
		one := turning(n, s)
		l = append(l, one, opposite(one))
	}
	l = append(l, turning(n), opposite(turning(n)))
	for range more {
		settings := turning(n)
		for s := range settings {
			settings[s] = r.Intn(2) == 0
		}
		l = append(l, settings)
	}
	return l
}

// opposite returns settings with the other switches turned.
func opposite(settings []bool) []bool {
	var l []bool
	for _, turned := range settings {
		l = append(l, !turned)
	}
	return l
}

// allStuck returns all lists of stuck switches of a small network.
func allStuck(n int) [][]int {
	var l [][]int
	for number := range int(math.Pow(3, float64(sizes[n]))) {
		l = append(l, digitsOf(number, 3, sizes[n]))
	}
	return l
}

// anyStuck returns a list of stuck switches of which some work.
func anyStuck(r *rand.Rand, n, work int) []int {
	l := make([]int, sizes[n])
	for s := range l {
		l[s] = 1 + r.Intn(2)
	}
	for _, s := range r.Perm(len(l))[:work] {
		l[s] = 0
	}
	return l
}

// agrees reports whether settings agree with stuck switches.
func agrees(settings []bool, stuck []int) bool {
	for s, kind := range stuck {
		if kind == 1 && settings[s] || kind == 2 && !settings[s] {
			return false
		}
	}
	return true
}

// tally returns how many settings that agree with stuck switches make each
// permutation, by trying all these settings.
func tally(n int, stuck []int) map[string]int {
	var working []int
	settings := turning(n)
	for s, kind := range stuck {
		settings[s] = kind == 2
		if kind == 0 {
			working = append(working, s)
		}
	}
	times := map[string]int{}
	for number := range 1 << len(working) {
		for i, s := range working {
			settings[s] = number>>i%2 == 1
		}
		times[name(made(n, settings))]++
	}
	return times
}

// name returns the text of a permutation.
func name(perm []int) string { return fmt.Sprint(perm) }

// notPermutations are lists that are no permutation for a network, for each reason why.
func notPermutations() [][]int {
	l := [][]int{nil, {}, {0, 0}, {1, 1}, {0, 2}, {1, 2}, {-1, 0}, {0, -1}, {0, 1, 2, 4}, {1, 2, 3, 4}, {0, 1, 2, 2}, {3, 0, 3, 1}, {0, 1, 1, 3}, {0, 0, 0, 0}, {math.MinInt, 0}, {1, math.MaxInt}, {0, 1, math.MinInt, 3}, {math.MaxInt, 1, 2, 3}}
	for _, n := range notPorts {
		if n > 0 && n <= 256 {
			l = append(l, identity(n))
		}
	}
	for _, n := range []int{4, 8, 16} {
		for k := range n {
			for _, other := range []int{n, -1, (k + 1) % n, math.MinInt, math.MaxInt} {
				wrong := identity(n)
				wrong[k] = other
				l = append(l, wrong)
			}
		}
	}
	return append(l, make([]int, 100000))
}

// notSwitches are numbers of elements that are not those of the switches of a network.
func notSwitches(n int) []int {
	return slices.DeleteFunc([]int{0, 1, 2, 5, 6, 7, 19, 20, 21, 55, 56, 57, 1000, sizes[n] - 1, sizes[n] + 1}, func(k int) bool { return k == sizes[n] })
}

// notStuck are lists that do not say for each switch how it is stuck.
func notStuck(n int) [][]int {
	var l [][]int
	for _, k := range notSwitches(n) {
		l = append(l, make([]int, k))
	}
	for _, kind := range []int{-1, 3, 4, math.MinInt, math.MaxInt} {
		for s := range sizes[n] {
			wrong := make([]int, sizes[n])
			wrong[s] = kind
			l = append(l, wrong)
		}
	}
	return l
}

// random returns the same numbers each time.
func random(seed int64) *rand.Rand { return rand.New(rand.NewSource(seed)) }

// expect reports a call whose result or error are not the wanted ones.
func expect[T comparable](t *testing.T, call string, got T, e api.Errno, want T, err api.Errno) {
	t.Helper()
	if got != want || e != err {
		t.Errorf("%s = %v, %d; want %v, %d", call, got, e, want, err)
	}
}

// expectList reports a call whose list or error are not the wanted ones.
func expectList[T comparable](t *testing.T, call string, l []T, e api.Errno, want []T, err api.Errno) {
	t.Helper()
	if !slices.Equal(l, want) || e != err {
		t.Errorf("%s = %v, %d; want %v, %d", call, l, e, want, err)
	}
}

// counted returns Ways that have no error.
func counted(t *testing.T, perm, stuck []int) int {
	t.Helper()
	ways, e := benes.Ways(perm, stuck)
	if e != api.OK {
		t.Fatalf("%s: error %d", call("Ways", perm, stuck), e)
	}
	return ways
}

// call returns the text of a call with these arguments.
func call(name string, arguments ...any) string {
	text := name + "(" + strings.TrimSuffix(fmt.Sprintln(arguments...), "\n") + ")"
	if len(text) > 400 {
		return text[:400] + "..."
	}
	return text
}
