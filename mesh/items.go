package mesh

import (
	"slices"

	"photonmesh/api"
)

// circle is how many powers of w there are.
const circle = 8

// half is how many eighths of a turn are half a turn.
const half = circle / 2

// ValidItems reports whether l are flat items on n guides.
func ValidItems(n int, l []api.Item) bool {
	return check(n, l) == api.OK
}

// Columns returns the column of each item: the first one behind those of the items in front of it on its guides.
func Columns(n int, l []api.Item) ([]int, api.Errno) {
	if e := check(n, l); e != api.OK {
		return nil, e
	}
	var columns []int
	var last [api.MaxModes]int
	for _, x := range l {
		on := last[x.At-1 : x.At-1+guides(x)]
		column := slices.Max(on) + 1
		for i := range on {
			on[i] = column
		}
		columns = append(columns, column)
	}
	return columns, api.OK
}

// Count returns how many items of each kind there are, with the greatest column at index 0.
func Count(n int, l []api.Item) ([4]int, api.Errno) {
	columns, e := Columns(n, l)
	if e != api.OK {
		return [4]int{}, e
	}
	var count [4]int
	for i, x := range l {
		count[x.Kind]++
		count[0] = max(count[0], columns[i])
	}
	return count, api.OK
}

// Inverse returns the items of the inverse circuit.
func Inverse(n int, l []api.Item) ([]api.Item, api.Errno) {
	if e := check(n, l); e != api.OK {
		return nil, e
	}
	var back []api.Item
	for _, x := range slices.Backward(l) {
		switch x.Kind {
		case api.ItemPhase:
			x.N = circle - x.N
			back = append(back, x)
		case api.ItemCouple:
			turn := api.Item{Kind: api.ItemPhase, At: x.At, N: half}
			back = append(back, turn, x, turn)
		case api.ItemCross:
			back = append(back, x)
		}
	}
	if len(back) > api.MaxFlat {
		return nil, api.ErrLimit
	}
	return back, api.OK
}

// Moved returns the items on m guides, with At greater by by.
func Moved(n int, l []api.Item, by, m int) ([]api.Item, api.Errno) {
	if e := check(n, l); e != api.OK {
		return nil, e
	}
	if by < -api.MaxModes || by > api.MaxModes {
		return nil, api.ErrArg
	}
	there := shifted(l, by)
	if !ValidItems(m, there) {
		return nil, api.ErrArg
	}
	return there, api.OK
}

// check returns ErrArg if there cannot be n guides, or ErrItem if l are no flat items on them.
func check(n int, l []api.Item) api.Errno {
	switch {
	case !validGuides(n):
		return api.ErrArg
	case len(l) > api.MaxFlat || !fit(l, n, nil):
		return api.ErrItem
	}
	return api.OK
}

// guides returns how many guides a flat item has.
func guides(x api.Item) int {
	n, _ := width(x, nil)
	return n
}

// shifted returns copies of the items, with At greater by by.
func shifted(l []api.Item, by int) []api.Item {
	there := make([]api.Item, len(l))
	copy(there, l)
	for i := range there {
		there[i].At += by
	}
	return there
}
