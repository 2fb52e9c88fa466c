package mesh_test

import (
	"fmt"
	"math"
	"math/rand"
	"slices"
	"strings"
	"testing"

	"photonmesh/amp"
	"photonmesh/api"
	"photonmesh/matrix"
	"photonmesh/mesh"
)

var one = api.Num{A: [4]int{1}}

func phase(at, n int) api.Item { return api.Item{Kind: api.ItemPhase, At: at, N: n} }

func couple(at int) api.Item { return api.Item{Kind: api.ItemCouple, At: at} }

func cross(at int) api.Item { return api.Item{Kind: api.ItemCross, At: at} }

func use(name string, at int) api.Item { return api.Item{Kind: api.ItemCell, At: at, Name: name} }

func cell(name string, guides int, items ...api.Item) api.Cell {
	return api.Cell{Name: name, Guides: guides, Items: items}
}

// items returns the flat items with these texts, such as "c1; p1 4; x2".
func items(text string) []api.Item {
	var l []api.Item
	for part := range strings.SplitSeq(text, ";") {
		var x api.Item
		var kind rune
		n, _ := fmt.Sscanf(strings.TrimSpace(part), "%c%d %d", &kind, &x.At, &x.N)
		x.Kind = strings.IndexRune(" pcx", kind)
		if n > 1 {
			l = append(l, x)
		}
	}
	return l
}

// invalidItems are no flat items on n guides, whatever n is.
func invalidItems() []api.Item {
	l := []api.Item{{}, phase(1, 0), phase(1, 8), phase(1, -1), phase(1, math.MaxInt), phase(1, math.MinInt), use("a", 1), use("", 1)}
	for _, kind := range []int{0, -1, 5, 6, math.MaxInt, math.MinInt} {
		l = append(l, api.Item{Kind: kind, At: 1}, api.Item{Kind: kind, At: 1, N: 1}, api.Item{Kind: kind, At: 1, Name: "a"})
	}
	for _, at := range []int{0, -1, 7, math.MaxInt, math.MaxInt - 1, math.MinInt, math.MinInt + 1} {
		l = append(l, phase(at, 1), couple(at), cross(at))
	}
	for _, n := range []int{1, -1, 8, math.MaxInt} {
		l = append(l, api.Item{Kind: api.ItemCouple, At: 1, N: n}, api.Item{Kind: api.ItemCross, At: 1, N: n})
	}
	for _, kind := range []int{api.ItemPhase, api.ItemCouple, api.ItemCross} {
		n := 0
		if kind == api.ItemPhase {
			n = 1
		}
		l = append(l, api.Item{Kind: kind, At: 1, N: n, Name: "a"}, api.Item{Kind: kind, At: 1, N: n, Name: " "})
	}
	return l
}

// invalidNets are no netlists, for each reason why.
func invalidNets() [][]api.Cell {
	a := cell("a", 2, couple(1))
	many := []api.Cell{}
	for i := range 21 {
		many = append(many, cell(string(rune('a'+i)), 1))
	}
	l := [][]api.Cell{nil, {}, many, {a, a}, {a, cell("b", 1), cell("a", 3)}, {cell("a", 2, use("a", 1))}, {cell("b", 2, use("a", 1)), a}, {a, cell("b", 2, use("c", 1))}, {a, cell("b", 2, use("", 1))},
		{a, cell("b", 1, use("a", 1))}, {a, cell("b", 3, use("a", 3))}, {a, cell("b", 6, use("a", 6))}, {a, cell("b", 6, use("a", 7))}, {a, cell("b", 6, use("a", 0))}, {a, cell("b", 6, use("a", -1))},
		{a, cell("b", 6, use("a", math.MaxInt))}, {a, cell("b", 6, use("a", math.MinInt))}, {a, cell("b", 2, api.Item{Kind: api.ItemCell, At: 1, N: 1, Name: "a"})}, {a, cell("b", 2, use("A", 1))},
		{cell("a", 2, slices.Repeat([]api.Item{couple(1)}, 201)...)}, {cell("a", 2, slices.Repeat([]api.Item{use("a", 1)}, 201)...), a}}
	for _, name := range []string{"", "A", "aB", "a1", "a ", " a", "a-b", "é", "aé", "a\n", "a\x00", "a\xff", "`", "{", "abcdefghi", strings.Repeat("a", 100000)} {
		l = append(l, []api.Cell{cell(name, 1)}, []api.Cell{a, cell(name, 6)}, []api.Cell{cell(name, 1), a})
	}
	for _, n := range []int{0, -1, 7, math.MaxInt, math.MinInt} {
		l = append(l, []api.Cell{cell("a", n)}, []api.Cell{a, cell("b", n)}, []api.Cell{cell("b", n), a})
	}
	for _, x := range invalidItems() {
		if x.Kind != api.ItemCell || x.Name != "a" {
			l = append(l, []api.Cell{a, cell("b", 6, x)}, []api.Cell{cell("b", 6, couple(1), x), a}, []api.Cell{a, cell("b", 6, x, use("a", 1))})
		}
	}
	return l
}

// random returns the same numbers each time.
func random(seed int64) *rand.Rand { return rand.New(rand.NewSource(seed)) }

// anyItem returns a flat item on n guides.
func anyItem(r *rand.Rand, n int) api.Item {
	kind := 1 + r.Intn(3)
	switch {
	case n == 1 || kind == api.ItemPhase:
		return phase(1+r.Intn(n), 1+r.Intn(7))
	case kind == api.ItemCouple:
		return couple(1 + r.Intn(n-1))
	}
	return cross(1 + r.Intn(n-1))
}

// anyItems returns so many flat items on n guides.
func anyItems(r *rand.Rand, n, size int) []api.Item {
	var l []api.Item
	for range size {
		l = append(l, anyItem(r, n))
	}
	return l
}

// anyNet returns a netlist with so many cells, each with less than size items.
func anyNet(r *rand.Rand, cells, size int) []api.Cell {
	var net []api.Cell
	for i := range cells {
		c := cell(string(rune('a'+i%26))+[]string{"", "cell", "xpc"}[r.Intn(3)], 1+r.Intn(6))
		for range r.Intn(size) {
			c.Items = append(c.Items, anyItem(r, c.Guides))
			if i == 0 {
				continue
			}
			if inner := net[r.Intn(i)]; inner.Guides <= c.Guides && r.Intn(2) == 0 {
				c.Items = append(c.Items, use(inner.Name, 1+r.Intn(c.Guides-inner.Guides+1)))
			}
		}
		net = append(net, c)
	}
	return net
}

// anyVector returns n amplitudes.
func anyVector(r *rand.Rand, n int) []api.Num {
	var v []api.Num
	for range n {
		z, _ := amp.Make([4]int{r.Intn(21) - 10, r.Intn(21) - 10, r.Intn(21) - 10, r.Intn(21) - 10}, r.Intn(5))
		v = append(v, z)
	}
	return v
}

// through returns what the amplitudes v become in flat items, made without matrices.
func through(l []api.Item, v []api.Num) ([]api.Num, api.Errno) {
	v = slices.Clone(v)
	for _, x := range l {
		at := x.At - 1
		switch x.Kind {
		case api.ItemPhase:
			v[at], _ = amp.Turn(v[at], x.N)
		case api.ItemCross:
			v[at], v[at+1] = v[at+1], v[at]
		case api.ItemCouple:
			up, e := amp.Halve(v[at], 1)
			down, e2 := amp.Halve(v[at+1], 1)
			if e != api.OK || e2 != api.OK {
				return nil, api.ErrLimit
			}
			over, _ := amp.Turn(up, 2)
			back, _ := amp.Turn(down, 2)
			v[at], e = amp.Add(up, back)
			v[at+1], e2 = amp.Add(over, down)
			if e != api.OK || e2 != api.OK {
				return nil, api.ErrLimit
			}
		}
	}
	return v, api.OK
}

// columnsOf returns the matrix whose columns are what becomes of light on each guide alone.
func columnsOf(n int, l []api.Item) (api.Matrix, api.Errno) {
	m := api.Matrix{N: n, E: make([]api.Num, n*n)}
	for column := range n {
		v := make([]api.Num, n)
		v[column] = one
		v, e := through(l, v)
		if e != api.OK {
			return api.Matrix{}, e
		}
		for row, z := range v {
			m.E[row*n+column] = z
		}
	}
	return m, api.OK
}

// flatten returns the flat items of cell i of a netlist, without any limit.
func flatten(net []api.Cell, i, by int) []api.Item {
	var l []api.Item
	for _, x := range net[i].Items {
		x.At += by
		if x.Kind == api.ItemCell {
			inner := slices.IndexFunc(net, func(c api.Cell) bool { return c.Name == x.Name })
			l = append(l, flatten(net, inner, x.At-1)...)
		} else {
			l = append(l, x)
		}
	}
	return l
}

// touches reports whether a flat item has a guide.
func touches(x api.Item, guide int) bool {
	return x.At == guide || x.Kind != api.ItemPhase && x.At+1 == guide
}

// meet reports whether two flat items have a guide in common.
func meet(x, y api.Item) bool {
	return touches(x, y.At) || touches(y, x.At)
}

// same reports whether two matrices are the same.
func same(a, b api.Matrix) bool {
	return a.N == b.N && slices.Equal(a.E, b.E)
}

// empty reports whether a matrix is the zero value.
func empty(m api.Matrix) bool { return m.N == 0 && len(m.E) == 0 }

// product returns a * b, which must exist.
func product(t *testing.T, a, b api.Matrix) api.Matrix {
	t.Helper()
	m, e := matrix.Mul(a, b)
	if e != api.OK {
		t.Fatalf("Mul: error %d", e)
	}
	return m
}

// expectItems reports a call whose items or error are not the wanted ones.
func expectItems(t *testing.T, call string, l []api.Item, e api.Errno, want []api.Item, err api.Errno) {
	t.Helper()
	if !slices.Equal(l, want) || e != err {
		t.Errorf("%s = %v, %d; want %v, %d", call, l, e, want, err)
	}
}

// matrixOf returns the matrix of flat items, which must exist.
func matrixOf(t *testing.T, n int, l []api.Item) api.Matrix {
	t.Helper()
	m, e := mesh.MatrixOf(n, l)
	if e != api.OK {
		t.Fatalf("MatrixOf(%d, %v): error %d", n, l, e)
	}
	return m
}
