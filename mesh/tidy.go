package mesh

import "photonmesh/api"

// none stands for no item.
const none = -1

// kept is a list from which items are taken out, but only while they are the last ones of their guides.
type kept struct {
	items []api.Item          // those that were taken out have the Kind 0
	on    [api.MaxModes][]int // for each guide, the indices of its items that are in the list
}

// Tidy returns the items with phases behind phases joined, and without equal crossings behind each other.
func Tidy(n int, l []api.Item) ([]api.Item, api.Errno) {
	if e := check(n, l); e != api.OK {
		return nil, e
	}
	var k kept
	for _, x := range l {
		last := k.last(x.At)
		switch {
		case x.Kind == api.ItemPhase && k.kind(last) == api.ItemPhase:
			k.join(last, x.N)
		case x.Kind == api.ItemCross && k.kind(last) == api.ItemCross && k.last(x.At+1) == last:
			k.takeOut(last)
		default:
			k.put(x)
		}
	}
	return k.rest(), api.OK
}

// last returns the index of the last item of a guide, or none.
func (k *kept) last(guide int) int {
	on := k.on[guide-1]
	if len(on) == 0 {
		return none
	}
	return on[len(on)-1]
}

// kind returns the Kind of an item, and 0 for none.
func (k *kept) kind(i int) int {
	if i == none {
		return 0
	}
	return k.items[i].Kind
}

// put puts an item at the end.
func (k *kept) put(x api.Item) {
	for guide := range guides(x) {
		on := &k.on[x.At-1+guide]
		*on = append(*on, len(k.items))
	}
	k.items = append(k.items, x)
}

// join turns a phase, which is the last item of its guide, by n more.
func (k *kept) join(i, n int) {
	sum := (k.items[i].N + n) % circle
	if sum == 0 {
		k.takeOut(i)
		return
	}
	k.items[i].N = sum
}

// takeOut takes out an item, which is the last one of its guides.
func (k *kept) takeOut(i int) {
	x := k.items[i]
	for guide := range guides(x) {
		on := &k.on[x.At-1+guide]
		*on = (*on)[:len(*on)-1]
	}
	k.items[i] = api.Item{}
}

// rest returns the items that are in the list.
func (k *kept) rest() []api.Item {
	var l []api.Item
	for _, x := range k.items {
		if x.Kind != 0 {
			l = append(l, x)
		}
	}
	return l
}
