package probe

import (
	"iter"
	"math/bits"
	"slices"
	"sync"

	"photonmesh/api"
	"photonmesh/benes"
)

// number returns the number whose bit s says whether switch s is turned.
func number(turned []bool) int {
	combination := 0
	for s, is := range turned {
		if is {
			combination |= 1 << s
		}
	}
	return combination
}

// made returns the permutation of a network whose switches are turned that the bits of a number say.
func made(n, combination int) []int {
	switches, _ := benes.Count(n)
	turned := make([]bool, switches)
	for s := range turned {
		turned[s] = combination>>s&1 == 1
	}
	perm, _ := benes.Through(n, turned)
	return perm
}

// network is what is known of a network: the permutation of each combination of turned switches, by its number.
type network struct {
	ports int
	perms [][]int
}

// know returns what is known of a network of n ports.
func know(n int) network {
	count, _ := States(n)
	perms := make([][]int, count)
	var joined sync.WaitGroup
	for combination := range perms {
		joined.Add(1)
		go func() {
			defer joined.Done()
			perms[combination] = made(n, combination)
		}()
	}
	joined.Wait()
	return network{ports: n, perms: perms}
}

// states returns all states of the network.
func (w network) states() set {
	// There are as many states as combinations, for a state is one of switches that are turned at rest.
	return ^set(0) >> (64 - len(w.perms))
}

// answer returns where light of a test comes out in a state.
func (w network) answer(t api.Test, state int) int {
	return w.perms[state^number(t.Turned)][t.In]
}

// answered returns a new test that has the answer of a state.
func (w network) answered(t api.Test, state int) api.Test {
	return api.Test{Turned: slices.Clone(t.Turned), In: t.In, Out: w.answer(t, state)}
}

// parted returns for each port the states that answer there.
func (w network) parted(states set, t api.Test) []set {
	parts := make([]set, w.ports)
	for state := range states.all() {
		parts[w.answer(t, state)] |= 1 << state
	}
	return parts
}

// alike returns which of the states answer all tests as a state does.
func (w network) alike(states set, state int, tests ...api.Test) set {
	for _, t := range tests {
		states = w.parted(states, t)[w.answer(t, state)]
	}
	return states
}

// best returns the index of the first try whose greatest part is least, and how many states this part has.
func (w network) best(states set, tries []api.Test) (int, int, api.Errno) {
	if len(tries) == 0 {
		return 0, 0, api.ErrNone
	}
	best, least := 0, states.size()
	for i, t := range tries {
		most := 0
		for _, part := range w.parted(states, t) {
			most = max(most, part.size())
		}
		if most < least {
			best, least = i, most
		}
	}
	return best, least, api.OK
}

// set is a set of states: its bit s says whether state s is in it. No network that is known has more than 64 states.
type set uint64

// setOf returns the set of these states.
func setOf(l []int) set {
	var s set
	for _, state := range l {
		s |= 1 << state
	}
	return s
}

// all yields the states of the set, in ascending order.
func (s set) all() iter.Seq[int] {
	return func(yield func(int) bool) {
		// Subtracting 1 changes the lowest bit that is set, and those below it.
		for rest := s; rest != 0; rest &= rest - 1 {
			if !yield(bits.TrailingZeros64(uint64(rest))) {
				return
			}
		}
	}
}

// list returns the states of the set, in ascending order.
func (s set) list() []int {
	return slices.Collect(s.all())
}

// size returns how many states there are in the set.
func (s set) size() int {
	return bits.OnesCount64(uint64(s))
}
