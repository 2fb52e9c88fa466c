package mesh_test

import (
	"fmt"
	"slices"
	"testing"

	"photonmesh/api"
	"photonmesh/matrix"
	"photonmesh/mesh"
)

// P3.7
func TestLevels(t *testing.T) {
	r := random(11)
	count := 0
	for range 400 {
		net := anyNet(r, 1+r.Intn(6), 7)
		flat, e := mesh.Flat(net)
		if e != api.OK {
			continue
		}
		uses, e := mesh.Uses(net)
		if e != api.OK {
			t.Fatalf("Uses(%v): error %d", net, e)
		}
		size := 0
		for i, c := range net {
			for _, x := range c.Items {
				if x.Kind != api.ItemCell {
					size += uses[i]
				}
			}
		}
		if size != len(flat) {
			t.Errorf("%v: %d flat items, but %d by Uses", net, len(flat), size)
		}
		a, e := mesh.Matrix(net)
		b, e2 := mesh.MatrixOf(net[len(net)-1].Guides, flat)
		if e != api.OK || e2 != api.OK {
			continue
		}
		if !same(a, b) {
			t.Errorf("%v: Matrix %v, MatrixOf %v", net, a, b)
		}
		count++
	}
	if count < 100 {
		t.Errorf("only %d circuits without an error", count)
	}
}

// P3.8
func TestCircuits(t *testing.T) {
	r := random(12)
	for k := range 300 {
		n := 1 + k%6
		l := anyItems(r, n, r.Intn(25))
		m := matrixOf(t, n, l)
		if is, e := matrix.Unitary(m); !is || e != api.OK {
			t.Errorf("MatrixOf(%v) is not unitary: %v, %d", l, m, e)
		}
		back, e := mesh.Inverse(n, l)
		dagger, e2 := matrix.Dagger(m)
		if e != api.OK || e2 != api.OK || !same(matrixOf(t, n, back), dagger) {
			t.Errorf("Inverse of %v does not make the Dagger", l)
		}
		other := anyItems(r, n, r.Intn(25))
		if !same(matrixOf(t, n, slices.Concat(l, other)), product(t, matrixOf(t, n, other), m)) {
			t.Errorf("%v and %v behind each other do not make the product", l, other)
		}
		v := anyVector(r, n)
		light, e := mesh.Light(n, l, v)
		want, e2 := matrix.Apply(m, v)
		if !slices.Equal(light, want) || e != api.OK || e2 != api.OK {
			t.Errorf("Light(%v, %v) = %v, %d; Apply = %v, %d", l, v, light, e, want, e2)
		}
	}
}

// P3.8
func TestTidyCircuits(t *testing.T) {
	r := random(13)
	for k := range 600 {
		n := 1 + k%6
		l := anyItems(r, n, r.Intn(30))
		tidy, e := mesh.Tidy(n, l)
		if e != api.OK || len(tidy) > len(l) || !mesh.ValidItems(n, tidy) {
			t.Errorf("Tidy(%v) = %v, %d", l, tidy, e)
		}
		if !same(matrixOf(t, n, tidy), matrixOf(t, n, l)) {
			t.Errorf("Tidy(%v) = %v has another matrix", l, tidy)
		}
		again, e := mesh.Tidy(n, tidy)
		expectItems(t, fmt.Sprint("Tidy of Tidy of ", l), again, e, tidy, api.OK)
	}
}

// P3.9
func TestColumnsOfCircuits(t *testing.T) {
	r := random(14)
	for k := range 300 {
		n := 1 + k%6
		l := anyItems(r, n, r.Intn(30))
		columns, e := mesh.Columns(n, l)
		if e != api.OK || len(columns) != len(l) {
			t.Fatalf("Columns(%v) = %v, %d", l, columns, e)
		}
		order := make([]int, len(l))
		for i := range l {
			order[i] = i
			for j := range i {
				if columns[i] == columns[j] && meet(l[i], l[j]) {
					t.Errorf("%v: items %d and %d of column %d meet", l, j, i, columns[i])
				}
			}
		}
		// Items of one column may stand in any order: here, in the other one.
		slices.Reverse(order)
		slices.SortStableFunc(order, func(i, j int) int { return columns[i] - columns[j] })
		var sorted []api.Item
		for _, i := range order {
			sorted = append(sorted, l[i])
		}
		m := matrixOf(t, n, l)
		if !same(matrixOf(t, n, sorted), m) {
			t.Errorf("%v sorted by columns is %v, which has another matrix", l, sorted)
		}
		count, e := mesh.Count(n, l)
		exponent, e2 := matrix.Exponent(m)
		if e != api.OK || e2 != api.OK || exponent > count[api.ItemCouple] {
			t.Errorf("%v: exponent %d, %v, %d, %d", l, exponent, count, e, e2)
		}
	}
}

// spoil overwrites a list and the room behind it.
func spoil[T any](l []T) {
	var zero T
	l = l[:cap(l)]
	for i := range l {
		l[i] = zero
	}
}

// Rule R4: results are new memory, and arguments are not changed.
func TestResultsAreNewMemory(t *testing.T) {
	l := items("p1 3; p1 2; c1; x2; x2; p3 1; c2")
	v := anyVector(random(15), 3)
	net := []api.Cell{cell("a", 3, l...), cell("b", 3, use("a", 1)), cell("c", 3, use("b", 1), use("b", 1))}
	alone := []api.Cell{cell("a", 3, l...)}
	before := fmt.Sprint(l, v, net, alone)
	for range 2 {
		for _, f := range []func() ([]api.Item, api.Errno){
			func() ([]api.Item, api.Errno) { return mesh.Inverse(3, l) }, func() ([]api.Item, api.Errno) { return mesh.Tidy(3, l) }, func() ([]api.Item, api.Errno) { return mesh.Moved(3, l, 0, 3) },
			func() ([]api.Item, api.Errno) { return mesh.Flat(net) }, func() ([]api.Item, api.Errno) { return mesh.Flat(alone) },
		} {
			r, e := f()
			if e != api.OK || len(r) == 0 {
				t.Fatalf("%v, %d", r, e)
			}
			spoil(r)
		}
		for _, items := range [][]api.Item{nil, l} {
			light, _ := mesh.Light(3, items, v)
			spoil(light)
			m, _ := mesh.MatrixOf(3, items)
			spoil(m.E)
		}
		m, _ := mesh.Matrix(net)
		spoil(m.E)
		uses, _ := mesh.Uses(net)
		spoil(uses)
		columns, _ := mesh.Columns(3, l)
		spoil(columns)
		if after := fmt.Sprint(l, v, net, alone); after != before {
			t.Fatalf("arguments change from %s to %s", before, after)
		}
	}
	parsed, e := mesh.Parse("cell a 2: c1; c1\ncell b 2: c1; c1\ncell c 2: a@1\n")
	if e != api.OK {
		t.Fatalf("Parse: %d", e)
	}
	spoil(parsed[0].Items)
	if !slices.Equal(parsed[1].Items, items("c1; c1")) || !slices.Equal(parsed[2].Items, []api.Item{use("a", 1)}) {
		t.Errorf("cells of a netlist share memory: %v", parsed)
	}
}
