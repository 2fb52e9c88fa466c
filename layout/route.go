package layout

import (
	"container/heap"

	"photonmesh/api"
)

const maxNumber = 1000000000 // absolute value of a number of a proof

// start is how a path begins: its first cell, and the direction of its first step.
type start struct {
	at  api.XY
	way int
}

// visit is a start with what a path from there costs.
type visit struct {
	start
	cost int
}

// queue is a heap of visits: the cheapest one comes first.
type queue []visit

func (q queue) Len() int           { return len(q) }
func (q queue) Less(i, j int) bool { return q[i].cost < q[j].cost }
func (q queue) Swap(i, j int)      { q[i], q[j] = q[j], q[i] }

// Push is called by package heap, which knows the elements only as values of any type.
func (q *queue) Push(x any) {
	if v, ok := x.(visit); ok {
		*q = append(*q, v)
	}
}

// Pop is called by package heap, which has moved the cheapest visit to the end.
func (q *queue) Pop() any {
	last := len(*q) - 1
	v := (*q)[last]
	*q = (*q)[:last]
	return v
}

// Far returns the least cost of a path from each cell to one, or -1 where there is none.
func Far(g api.Grid, to api.XY) ([]int, api.Errno) {
	b, e := read(g)
	if e != api.OK {
		return nil, e
	}
	if !b.has(to) {
		return nil, api.ErrBlock
	}
	costs := b.costs(to)
	var l []int
	for _, c := range b.cells() {
		switch way := b.cheapest(costs, c, none); {
		case c == to:
			l = append(l, 0)
		case way == none:
			l = append(l, -1)
		default:
			l = append(l, costs[start{c, way}])
		}
	}
	return l, api.OK
}

// Route returns the first path of the least cost, and this cost.
func Route(g api.Grid, from, to api.XY) ([]api.XY, int, api.Errno) {
	b, e := read(g)
	if e != api.OK {
		return nil, 0, e
	}
	if !b.has(from) || !b.has(to) {
		return nil, 0, api.ErrBlock
	}
	costs := b.costs(to)
	path, cost := []api.XY{from}, 0
	c, way := from, none
	for c != to {
		next := b.cheapest(costs, c, way)
		if next == none {
			return nil, 0, api.ErrNone
		}
		cost += b.Move + b.bend(way, next)
		c, way = beside(c, next), next
		path = append(path, c)
	}
	return path, cost, api.OK
}

// IsProof reports whether numbers are a proof of lower bounds for what paths to a cell cost.
func IsProof(g api.Grid, to api.XY, far []int) (bool, api.Errno) {
	b, e := read(g)
	if e != api.OK {
		return false, e
	}
	if !b.has(to) {
		return false, api.ErrBlock
	}
	if !areNumbers(far, b.W*b.H) {
		return false, api.ErrArg
	}
	if far[b.index(to)] > 0 {
		return false, api.OK
	}
	for _, c := range b.cells() {
		for way := range ways {
			next := beside(c, way)
			if b.has(c) && b.has(next) && far[b.index(c)] > far[b.index(next)]+b.Move {
				return false, api.OK
			}
		}
	}
	return true, api.OK
}

// areNumbers reports whether l is a list of n numbers of a proof.
func areNumbers(l []int, n int) bool {
	if len(l) != n {
		return false
	}
	for _, x := range l {
		if x < -maxNumber || x > maxNumber {
			return false
		}
	}
	return true
}

// costs returns, for each way to begin, the least cost of going to a cell.
// Steps that come to a cell twice count as well, although they are no path: none
// of them is the cheapest of all, as without the part between, which has two
// steps and a bend at least, they have at most one bend in its stead.
func (b board) costs(to api.XY) map[start]int {
	least := map[start]int{}
	waiting := &queue{}
	b.extend(waiting, visit{start: start{to, none}})
	for waiting.Len() > 0 {
		v, ok := heap.Pop(waiting).(visit)
		if _, done := least[v.start]; done || !ok {
			continue
		}
		least[v.start] = v.cost
		b.extend(waiting, v)
	}
	return least
}

// extend adds to the queue what begins with one step more in front of a visit.
func (b board) extend(waiting *queue, v visit) {
	for way := range ways {
		from := beside(v.at, turnedBy(way, ways/2))
		if b.has(from) {
			heap.Push(waiting, visit{start{from, way}, v.cost + b.Move + b.bend(way, v.way)})
		}
	}
}

// cheapest returns the first direction in which going on is cheapest for a path
// that came by the direction in, or none if there is no way.
func (b board) cheapest(costs map[start]int, c api.XY, in int) int {
	best, least := none, 0
	for way := range ways {
		cost, ok := costs[start{c, way}]
		if !ok {
			continue
		}
		cost += b.bend(in, way)
		if best == none || cost < least {
			best, least = way, cost
		}
	}
	return best
}
