package synth

import (
	"slices"

	"photonmesh/amp"
	"photonmesh/api"
	"photonmesh/mesh"
)

// straight is the phase of a switch in which all light stays on its guide.
const straight = circle / 2

// Switch returns the items of a switch on the guides at and at + 1 with the phase n.
func Switch(at, n int) ([]api.Item, api.Errno) {
	if at < 1 || at >= api.MaxModes || !validTurn(n) {
		return nil, api.ErrArg
	}
	coupler := api.Item{Kind: api.ItemCouple, At: at}
	return slices.Concat([]api.Item{coupler}, phase(at, n), []api.Item{coupler}), api.OK
}

// Bar returns which part of the power stays on its guide in a switch with the phase n.
func Bar(n int) (api.Num, api.Errno) {
	l, e := Switch(1, n)
	if e != api.OK {
		return api.Num{}, e
	}
	m, e := mesh.MatrixOf(2, l)
	if e != api.OK {
		return api.Num{}, e
	}
	return amp.Power(m.E[0])
}

// Nearest returns the phase from 0 to 4 whose Bar is nearest to power, of two the lesser one.
func Nearest(power api.Num) (int, api.Errno) {
	// The Bars ascend up to that of straight. The power is compared with what lies
	// half way to the next one, because its distances need not be in range.
	for n := range straight {
		order, e := amp.Cmp(power, middle(n))
		if e != api.OK {
			return 0, e
		}
		if order <= 0 {
			return n, api.OK
		}
	}
	return straight, api.OK
}

// middle returns what lies half way between the Bars of n and n + 1, which exist and are in range.
func middle(n int) api.Num {
	low, _ := Bar(n)
	high, _ := Bar(n + 1)
	both, _ := amp.Add(low, high)
	// 2 is r^2.
	half, _ := amp.Halve(both, 2)
	return half
}

// Diagonal returns phases by which each guide is turned, from the first one on.
func Diagonal(turns []int) ([]api.Item, api.Errno) {
	if len(turns) == 0 || len(turns) > api.MaxModes {
		return nil, api.ErrArg
	}
	var l []api.Item
	for i, n := range turns {
		if !validTurn(n) {
			return nil, api.ErrArg
		}
		l = append(l, phase(i+1, n)...)
	}
	return l, api.OK
}

// validTurn reports whether n is from 0 to 7.
func validTurn(n int) bool {
	return n >= 0 && n < circle
}

// phase returns the items that turn a guide by n from 0 to 7: no phase does so by 0.
func phase(at, n int) []api.Item {
	if n == 0 {
		return nil
	}
	return []api.Item{{Kind: api.ItemPhase, At: at, N: n}}
}
