package probe_test

import (
	"fmt"
	"math"
	"math/rand"
	"slices"
	"strings"
	"testing"

	"photonmesh/api"
)

// switches are the ports of the networks that can be known, with how many switches they have.
var switches = map[int]int{2: 1, 4: 6}

// ports are the keys of switches.
var ports = []int{2, 4}

// notPorts are numbers of ports for which no states are known, also such that have a network.
var notPorts = []int{-16, -4, -2, -1, 0, 1, 3, 5, 6, 7, 8, 9, 16, 32, 64, 1 << 32, 1 << 62, math.MinInt, math.MinInt + 2, math.MaxInt}

// notPort returns numbers that are no ports of a network.
func notPort(n int) []int { return []int{-1, n, n + 1, -n, math.MinInt, math.MaxInt} }

// notState returns numbers that are no states of a network.
func notState(n int) []int {
	all := states(n)
	return []int{-1, all, all + 1, -all, 1 << 32, 1 << 62, math.MinInt, math.MaxInt}
}

// notSwitches are numbers of settings that are not those of a network.
func notSwitches(n int) []int {
	return slices.DeleteFunc([]int{0, 1, 2, 3, 4, 5, 6, 7, 20, 56, 1000}, func(k int) bool { return k == switches[n] })
}

// states returns how many states a network has.
func states(n int) int {
	all := 1
	for range switches[n] {
		all *= 2
	}
	return all
}

// settings returns the settings of a network with the bits of a number.
func settings(n, number int) []bool {
	var l []bool
	for range switches[n] {
		l = append(l, number%2 == 1)
		number /= 2
	}
	return l
}

// try returns a test with the settings of a number.
func try(n, number, in, out int) api.Test {
	return api.Test{Turned: settings(n, number), In: in, Out: out}
}

// bits returns settings from a text of digits; other characters part them.
func bits(text string) []bool {
	var l []bool
	for _, c := range text {
		if c == '0' || c == '1' {
			l = append(l, c == '1')
		}
	}
	return l
}

// comesOut returns where light comes out of a network, by the document's words.
func comesOut(n, state int, turned []bool, in int) int {
	is := settings(n, state)
	for s := range is {
		is[s] = is[s] != turned[s]
	}
	passed := func(s, input int) int {
		if is[s] {
			return 1 - input
		}
		return input
	}
	if n == 2 {
		return passed(0, in)
	}
	// First switches 0 and 1, last ones 2 and 3, the upper one 4, the lower one 5.
	half := passed(in/2, in%2)
	last := passed(4+half, in/2)
	return 2*last + passed(2+last, half)
}

// identity returns the numbers from 0 on.
func identity(n int) []int {
	var l []int
	for k := range n {
		l = append(l, k)
	}
	return l
}

// agreeing returns the states of a list that agree with all tests.
func agreeing(n int, l []int, tests ...api.Test) []int {
	var left []int
	for _, state := range l {
		if !slices.ContainsFunc(tests, func(t api.Test) bool { return comesOut(n, state, t.Turned, t.In) != t.Out }) {
			left = append(left, state)
		}
	}
	return left
}

// portions returns for each port how many states of a list answer there.
func portions(n int, l []int, turned []bool, in int) []int {
	var sizes []int
	for out := range n {
		sizes = append(sizes, len(agreeing(n, l, api.Test{Turned: turned, In: in, Out: out})))
	}
	return sizes
}

// bestOf returns the first try whose greatest part is least, and the size of this part.
func bestOf(n int, l []int, tries []api.Test) (int, int) {
	var most []int
	for _, t := range tries {
		most = append(most, slices.Max(portions(n, l, t.Turned, t.In)))
	}
	least := slices.Min(most)
	return slices.Index(most, least), least
}

// areTwins reports whether no try parts two states.
func areTwins(n, a, b int, tries []api.Test) bool {
	for _, t := range tries {
		if comesOut(n, a, t.Turned, t.In) != comesOut(n, b, t.Turned, t.In) {
			return false
		}
	}
	return true
}

// twinsOf returns the pairs of states of a list that no try parts.
func twinsOf(n int, l []int, tries []api.Test) [][2]int {
	var pairs [][2]int
	for i, a := range l {
		for _, b := range l[i+1:] {
			if areTwins(n, a, b, tries) {
				pairs = append(pairs, [2]int{a, b})
			}
		}
	}
	return pairs
}

// found returns the tests by which a state is found out, and the states that are left.
func found(n, state int, tries []api.Test) ([]api.Test, []int) {
	left := identity(states(n))
	var tests []api.Test
	for len(tries) > 0 {
		best, most := bestOf(n, left, tries)
		if most == len(left) {
			break
		}
		t := tries[best]
		t.Out = comesOut(n, state, t.Turned, t.In)
		tests = append(tests, t)
		left = agreeing(n, left, t)
	}
	return tests, left
}

// sameTest reports whether two tests are the same.
func sameTest(a, b api.Test) bool {
	return slices.Equal(a.Turned, b.Turned) && a.In == b.In && a.Out == b.Out
}

// copied returns tests that share no memory with these.
func copied(l []api.Test) []api.Test {
	var own []api.Test
	for _, t := range l {
		own = append(own, api.Test{Turned: slices.Clone(t.Turned), In: t.In, Out: t.Out})
	}
	return own
}

// random returns the same numbers each time.
func random(seed int64) *rand.Rand { return rand.New(rand.NewSource(seed)) }

// anyTests returns tests of a network; their settings are few or many different ones.
func anyTests(r *rand.Rand, n, count int) []api.Test {
	different := 1 + r.Intn(states(n))
	var l []api.Test
	for range count {
		l = append(l, try(n, r.Intn(different), r.Intn(n), r.Intn(n)))
	}
	return l
}

// answered returns the tests with the answers of a state.
func answered(n, state int, l []api.Test) []api.Test {
	l = copied(l)
	for i, t := range l {
		l[i].Out = comesOut(n, state, t.Turned, t.In)
	}
	return l
}

// anyStates returns states of a network, in ascending order: none, few, many, or all.
func anyStates(r *rand.Rand, n int) []int {
	part := r.Intn(5)
	return slices.DeleteFunc(identity(states(n)), func(int) bool { return r.Intn(4) >= part })
}

// notStates are lists that are no ascending lists of states, for each reason why.
func notStates(n int) [][]int {
	last := states(n) - 1
	l := [][]int{{0, 0}, {last, last}, {1, 0}, {last, 0}, {0, last, last}, {0, last, 1}, append(identity(states(n)), last), append(identity(states(n)), 0), make([]int, 2000)}
	for _, wrong := range notState(n) {
		l = append(l, []int{wrong}, []int{0, wrong}, []int{wrong, 0}, []int{wrong, last}, append(identity(states(n)), wrong))
	}
	return append(l, []int{math.MinInt, 0, 1}, []int{math.MaxInt, math.MinInt}, []int{0, math.MaxInt, math.MinInt})
}

// notTests are lists that are no tests of a network, for each reason why.
func notTests(n int) [][]api.Test {
	good := try(n, 1, n-1, 0)
	var wrong []api.Test
	for _, k := range notSwitches(n) {
		wrong = append(wrong, api.Test{Turned: make([]bool, k)})
	}
	for _, port := range notPort(n) {
		wrong = append(wrong, try(n, 0, port, 0), try(n, 0, 0, port), try(n, 0, port, port))
	}
	l := [][]api.Test{slices.Repeat([]api.Test{good}, 41), slices.Repeat([]api.Test{good}, 10000)}
	for _, t := range wrong {
		l = append(l, []api.Test{t}, []api.Test{good, t}, []api.Test{t, good, good}, append(slices.Repeat([]api.Test{good}, 39), t))
	}
	return l
}

// expect reports a call whose result or error are not the wanted ones.
func expect[T comparable](t *testing.T, call string, got T, e api.Errno, want T, err api.Errno) {
	t.Helper()
	if got != want || e != err {
		t.Errorf("%s = %v, %d; want %v, %d", call, got, e, want, err)
	}
}

// expectList reports a call whose list or error are not the wanted ones.
func expectList[T comparable](t *testing.T, call string, l []T, e api.Errno, want []T, err api.Errno) {
	t.Helper()
	if !slices.Equal(l, want) || e != err {
		t.Errorf("%s = %v, %d; want %v, %d", call, l, e, want, err)
	}
}

// expectTests reports a call whose tests are not the wanted ones.
func expectTests(t *testing.T, call string, l, want []api.Test) {
	t.Helper()
	if !slices.EqualFunc(l, want, sameTest) {
		t.Errorf("%s: tests %v; want %v", call, l, want)
	}
}

// call returns the text of a call with these arguments.
func call(name string, arguments ...any) string {
	text := name + "(" + strings.TrimSuffix(fmt.Sprintln(arguments...), "\n") + ")"
	if len(text) > 400 {
		return text[:400] + "..."
	}
	return text
}
