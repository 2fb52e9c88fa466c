package mesh_test

import (
	"fmt"
	"slices"
	"strings"
	"testing"

	"photonmesh/api"
	"photonmesh/matrix"
	"photonmesh/mesh"
)

// step is a circuit whose exponent grows by each repetition.
const step = "c1; p1 1; "

// deepNet returns a netlist with one cell that repeats a coupler and a phase.
func deepNet(size int) []api.Cell {
	return []api.Cell{cell("deep", 2, items(strings.Repeat(step, size/2))...)}
}

// P3.4
func TestMatrixOfItems(t *testing.T) {
	i := api.Num{A: [4]int{0, 0, 1}}
	w3 := api.Num{A: [4]int{0, 0, 0, 1}}
	through, over := api.Num{A: [4]int{1}, K: 1}, api.Num{A: [4]int{0, 0, 1}, K: 1}
	for _, c := range []struct {
		n    int
		text string
		want []api.Num
	}{
		{1, "", []api.Num{one}}, {1, "p1 3", []api.Num{w3}}, {1, "p1 3; p1 7", []api.Num{i}}, {2, "", []api.Num{one, {}, {}, one}},
		{2, "c1", []api.Num{through, over, over, through}}, {2, "x1", []api.Num{{}, one, one, {}}}, {2, "c1; c1", []api.Num{{}, i, i, {}}},
		{2, "p2 3", []api.Num{one, {}, {}, w3}}, {2, "p1 3; x1", []api.Num{{}, one, w3, {}}}, {2, "x1; p1 3", []api.Num{{}, w3, one, {}}},
		{3, "x1; x2", []api.Num{{}, one, {}, {}, {}, one, one, {}, {}}}, {3, "c2; c2", []api.Num{one, {}, {}, {}, {}, i, {}, i, {}}},
	} {
		m, e := mesh.MatrixOf(c.n, items(c.text))
		if !same(m, api.Matrix{N: c.n, E: c.want}) || e != api.OK {
			t.Errorf("MatrixOf %q = %v, %d", c.text, m, e)
		}
	}
	r := random(7)
	limits := 0
	for k := range 240 {
		n := 1 + k%6
		l := anyItems(r, n, r.Intn(300))
		want, err := columnsOf(n, l)
		m, e := mesh.MatrixOf(n, l)
		if !same(m, want) || e != err {
			t.Errorf("MatrixOf(%d, %v) = %v, %d; want %v, %d", n, l, m, e, want, err)
		}
		if err == api.ErrLimit {
			limits++
		}
	}
	if limits < 10 || limits > 200 {
		t.Errorf("%d of 240 circuits are beyond the limits", limits)
	}
}

// P3.4: a step that is not in range counts, even if the result would be.
func TestMatrixLimit(t *testing.T) {
	beyond, between := 0, 0
	for size := 140; size < 170; size++ {
		l := items(strings.Repeat(step, size))[:size]
		back, e := mesh.Inverse(2, l)
		if e != api.OK {
			t.Fatalf("Inverse: %d", e)
		}
		_, err := columnsOf(2, l)
		for _, l := range [][]api.Item{l, append(slices.Clone(l), back...)} {
			want, err := columnsOf(2, l)
			m, e := mesh.MatrixOf(2, l)
			if !same(m, want) || e != err {
				t.Errorf("%d items: %v, %d; want %v, %d", len(l), m, e, want, err)
			}
		}
		if err != api.OK {
			beyond++
		} else if _, err := mesh.MatrixOf(2, append(l, back...)); err != api.OK {
			between++ // the result, the identity, would be in range
		}
	}
	if beyond == 0 || beyond == 30 || between == 0 {
		t.Errorf("of 30 circuits, %d are beyond the limits, and %d with their inverses", beyond, between)
	}
	if m, e := mesh.MatrixOf(6, slices.Repeat(items("c1; c5; x3; p6 4; c1"), 1000)); e != api.OK || m.N != 6 {
		t.Errorf("5000 items: %v, %d", m, e)
	}
}

// beside returns the matrix of n guides that is m on those from at on.
func beside(t *testing.T, n, at int, m api.Matrix) api.Matrix {
	t.Helper()
	for _, before := range []bool{true, false} {
		size := at - 1
		if !before {
			size = n - m.N
		}
		if size == 0 {
			continue
		}
		unit, e := matrix.Identity(size)
		var e2 api.Errno
		if before {
			m, e2 = matrix.Beside(unit, m)
		} else {
			m, e2 = matrix.Beside(m, unit)
		}
		if e != api.OK || e2 != api.OK {
			t.Fatalf("Beside: %d, %d", e, e2)
		}
	}
	return m
}

// byCells returns the matrix of the circuit by the words of the document.
func byCells(t *testing.T, net []api.Cell) (api.Matrix, api.Errno) {
	t.Helper()
	made := map[string]api.Matrix{}
	for _, c := range net {
		m, _ := matrix.Identity(c.Guides)
		for _, x := range c.Items {
			inner := made[x.Name]
			if x.Kind != api.ItemCell {
				size := 2
				if x.Kind == api.ItemPhase {
					size = 1
				}
				alone := x
				alone.At = 1
				inner, _ = columnsOf(size, []api.Item{alone})
			}
			var e api.Errno
			if m, e = matrix.Mul(beside(t, c.Guides, x.At, inner), m); e != api.OK {
				return api.Matrix{}, e
			}
		}
		made[c.Name] = m
	}
	return made[net[len(net)-1].Name], api.OK
}

// P3.4
func TestMatrix(t *testing.T) {
	r := random(8)
	limits := 0
	for range 300 {
		net := anyNet(r, 1+r.Intn(8), 9)
		want, err := byCells(t, net)
		m, e := mesh.Matrix(net)
		if !same(m, want) || e != err {
			t.Errorf("Matrix(%v) = %v, %d; want %v, %d", net, m, e, want, err)
		}
		if err != api.OK {
			limits++
		}
	}
	if limits > 250 {
		t.Errorf("%d of 300 netlists are beyond the limits", limits)
	}
}

// P3.4: each cell is formed, once.
func TestMatrixOfCells(t *testing.T) {
	deep := deepNet(200)
	if m, e := mesh.Matrix(deep); !empty(m) || e != api.ErrLimit {
		t.Errorf("deep: %v, %d", m, e)
	}
	if m, e := mesh.Matrix(append(deep, cell("main", 2, couple(1)))); !empty(m) || e != api.ErrLimit {
		t.Errorf("behind a deep cell that is not used: %v, %d", m, e)
	}
	// 200^19 crossings, which are too many for flat items.
	unit, _ := matrix.Identity(2)
	if m, e := mesh.Matrix(tower(20, 200, cross(1))); !same(m, unit) || e != api.OK {
		t.Errorf("tower: %v, %d", m, e)
	}
	i := api.Num{A: [4]int{0, 0, 1}}
	if m, e := mesh.Matrix([]api.Cell{cell("a", 2, couple(1)), cell("b", 3, use("a", 2), use("a", 2))}); !same(m, api.Matrix{N: 3, E: []api.Num{one, {}, {}, {}, {}, i, {}, i, {}}}) || e != api.OK {
		t.Errorf("two couplers: %v, %d", m, e)
	}
}

// P3.4
func TestLight(t *testing.T) {
	r := random(9)
	for k := range 300 {
		n := 1 + k%6
		l, v := anyItems(r, n, r.Intn(100)), anyVector(r, n)
		want, err := through(l, v)
		got, e := mesh.Light(n, l, v)
		if !slices.Equal(got, want) || e != err {
			t.Errorf("Light(%v, %v) = %v, %d; want %v, %d", l, v, got, e, want, err)
		}
	}
	v := []api.Num{{A: [4]int{1, -2, 3, 5}, K: 7}, {A: [4]int{1000000000}}}
	if got, e := mesh.Light(2, nil, v); !slices.Equal(got, v) || e != api.OK {
		t.Errorf("Light without items = %v, %d", got, e)
	}
}

// P3.4: ErrArg and ErrItem are in TestInvalidItems.
func TestLightErrors(t *testing.T) {
	top := api.Num{A: [4]int{1000000000}}
	tiny := api.Num{A: [4]int{1}, K: 40}
	for _, c := range []struct {
		n    int
		text string
		v    []api.Num
		want api.Errno
	}{
		{2, "c1", nil, api.ErrMatrix}, {2, "", []api.Num{}, api.ErrMatrix}, {2, "", make([]api.Num, 7), api.ErrMatrix}, {2, "c1", []api.Num{one, {K: 1}}, api.ErrMatrix},
		{2, "c1", []api.Num{{A: [4]int{1000000001}}, one}, api.ErrMatrix}, {1, "", []api.Num{one, {K: 1}}, api.ErrMatrix}, {6, "", []api.Num{{K: 41}}, api.ErrMatrix},
		{2, "c1", []api.Num{one}, api.ErrSize}, {2, "", []api.Num{one, one, one}, api.ErrSize}, {1, "", []api.Num{one, top}, api.ErrSize}, {3, "c1", []api.Num{tiny, tiny}, api.ErrSize},
		{2, "c1", []api.Num{tiny, {}}, api.ErrLimit}, {2, "c1", []api.Num{tiny, tiny}, api.ErrLimit}, {2, "c1; c1", []api.Num{{}, tiny}, api.ErrLimit},
		{2, "c1", []api.Num{{A: [4]int{1000000000, 1000000000, 0, -1000000000}, K: 0}, {A: [4]int{0, 1000000000, 1000000000, 1000000000}, K: 0}}, api.ErrLimit},
		{2, "p1 1; x1; p2 4", []api.Num{tiny, top}, api.OK},
	} {
		v, e := mesh.Light(c.n, items(c.text), c.v)
		if e != c.want || (len(v) != 0) != (c.want == api.OK) {
			t.Errorf("Light(%d, %q, %v) = %v, %d; want %d", c.n, c.text, c.v, v, e, c.want)
		}
	}
	if v, e := mesh.Light(2, items(strings.Repeat(step, 100)), []api.Num{one, {}}); len(v) != 0 || e != api.ErrLimit {
		t.Errorf("Light through a deep circuit = %v, %d", v, e)
	}
	if v, e := mesh.Light(2, items(strings.Repeat(step, 100)), []api.Num{{}, {}}); fmt.Sprint(v) != fmt.Sprint(make([]api.Num, 2)) || e != api.OK {
		t.Errorf("no light through a deep circuit = %v, %d", v, e)
	}
}
