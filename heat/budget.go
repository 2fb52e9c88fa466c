package heat

import (
	"slices"

	"photonmesh/api"
)

const (
	maxSlack   = 1000000 // by how much Cheapest lets a guide be off
	maxTop     = 20      // power that Cheapest tries
	maxTried   = 3       // heaters with which Cheapest tries all powers
	maxChanges = 100     // changes that Peak takes
	maxBudget  = api.MaxHeat * api.MaxPower
)

// Cheapest returns the powers of up to top with the least sum that turn no guide
// wrongly by more than slack, of several the list that comes first.
func Cheapest(b api.Bank, want []int, slack, top int) ([]int, api.Errno) {
	heaters, e := read(b)
	switch {
	case e != api.OK:
		return nil, e
	case !arePhases(want, heaters.n), slack < 0, slack > maxSlack, top < 0, top > maxTop:
		return nil, api.ErrArg
	case heaters.n > maxTried:
		return nil, api.ErrLimit
	}
	best, found := heaters.cheapest(held(want), slack, top)
	if !found {
		return nil, api.ErrBudget
	}
	return slices.Clone(best[:heaters.n]), api.OK
}

// cheapest does what Cheapest does, and reports whether there are such powers.
func (b bank) cheapest(want list, slack, top int) (best list, found bool) {
	// The lists ascend: of several with the same sum, the first one is met first.
	for powers, more := (list{}), true; more; powers, more = b.next(powers, top) {
		if found && powers.sum() >= best.sum() {
			continue
		}
		if b.near(want, powers, slack) {
			best, found = powers, true
		}
	}
	return best, found
}

// near reports whether powers turn no guide wrongly by more than slack.
func (b bank) near(want, powers list, slack int) bool {
	for _, x := range b.off(want, powers) {
		if size(x) > slack {
			return false
		}
	}
	return true
}

// next returns the list of numbers from 0 to top that follows, and true, if there is one.
func (b bank) next(l list, top int) (list, bool) {
	for k := b.n - 1; k >= 0; k-- {
		if l[k] < top {
			l[k]++
			return l, true
		}
		l[k] = 0
	}
	return list{}, false
}

// Steps returns single changes from some powers to others, in an order in which
// no sum on the way is greater than both sums are.
func Steps(from, to []int, budget int) ([][2]int, api.Errno) {
	n := len(from)
	if !areSome(from) || !arePowers(to, n) || budget < 0 || budget > maxBudget {
		return nil, api.ErrArg
	}
	if held(from).sum() > budget || held(to).sum() > budget {
		return nil, api.ErrBudget
	}
	var less, greater [][2]int
	for k, p := range to {
		switch {
		case p < from[k]:
			less = append(less, [2]int{k, p})
		case p > from[k]:
			greater = append(greater, [2]int{k, p})
		}
	}
	return append(less, greater...), api.OK
}

// Peak returns the greatest sum of powers at the beginning and behind each change.
func Peak(from []int, steps [][2]int) (int, api.Errno) {
	if !areSome(from) || len(steps) > maxChanges {
		return 0, api.ErrArg
	}
	powers := held(from)
	peak := powers.sum()
	for _, s := range steps {
		k, p := s[0], s[1]
		if k < 0 || k >= len(from) || p < 0 || p > api.MaxPower {
			return 0, api.ErrArg
		}
		powers[k] = p
		peak = max(peak, powers.sum())
	}
	return peak, api.OK
}

// areSome reports whether l are the powers of some bank.
func areSome(l []int) bool {
	return len(l) >= 1 && len(l) <= api.MaxHeat && arePowers(l, len(l))
}
