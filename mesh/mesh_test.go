package mesh_test

import (
	"fmt"
	"slices"
	"testing"

	"photonmesh/api"
	"photonmesh/mesh"
)

// P3.1: ErrNet, with zero values.
func TestInvalidNetlists(t *testing.T) {
	for i, net := range invalidNets() {
		if text, e := mesh.Format(net); text != "" || e != api.ErrNet {
			t.Errorf("netlist %d: Format = %q, %d", i, text, e)
		}
		if l, e := mesh.Flat(net); len(l) != 0 || e != api.ErrNet {
			t.Errorf("netlist %d: Flat = %v, %d", i, l, e)
		}
		if m, e := mesh.Matrix(net); !empty(m) || e != api.ErrNet {
			t.Errorf("netlist %d: Matrix = %v, %d", i, m, e)
		}
		if l, e := mesh.Uses(net); len(l) != 0 || e != api.ErrNet {
			t.Errorf("netlist %d: Uses = %v, %d", i, l, e)
		}
	}
}

// P3.1: ErrNet in front of ErrLimit.
func TestInvalidNetlistsBeyondLimits(t *testing.T) {
	for _, net := range [][]api.Cell{tower(19, 200, couple(1)), tower(19, 200, cross(1)), deepNet(200)} {
		net = append(net, cell("a", 0))
		if text, e := mesh.Format(net); text != "" || e != api.ErrNet {
			t.Errorf("Format = %q, %d", text, e)
		}
		if l, e := mesh.Flat(net); len(l) != 0 || e != api.ErrNet {
			t.Errorf("Flat = %v, %d", l, e)
		}
		if m, e := mesh.Matrix(net); !empty(m) || e != api.ErrNet {
			t.Errorf("Matrix = %v, %d", m, e)
		}
		if l, e := mesh.Uses(net); len(l) != 0 || e != api.ErrNet {
			t.Errorf("Uses = %v, %d", l, e)
		}
	}
}

// P3.2
func TestValid(t *testing.T) {
	for i, net := range invalidNets() {
		if mesh.Valid(net) {
			t.Errorf("netlist %d is valid: %.300v", i, net)
		}
	}
	full := []api.Cell{}
	for i := range 20 {
		full = append(full, cell(string(rune('a'+i)), 1, slices.Repeat([]api.Item{phase(1, 7)}, 200)...))
	}
	for i, net := range [][]api.Cell{
		full, {cell("a", 1)}, {cell("a", 6)}, {cell("abcdefgh", 2)}, {cell("z", 2), cell("a", 2)}, {cell("cell", 1), cell("p", 1), cell("c", 2), cell("x", 6)},
		{cell("a", 6, phase(1, 1), phase(6, 7), couple(1), couple(5), cross(1), cross(5))}, {cell("a", 2, couple(1)), cell("b", 2, use("a", 1), use("a", 1))},
		{cell("a", 2, couple(1)), cell("b", 3, use("a", 2)), cell("c", 6, use("b", 4), use("a", 5), use("b", 1))},
		{cell("a", 6), cell("b", 6, use("a", 1))}, {cell("a", 1), cell("b", 6, use("a", 6))}, {cell("a", 1, []api.Item{}...)},
	} {
		if !mesh.Valid(net) {
			t.Errorf("netlist %d is not valid: %.300v", i, net)
		}
	}
	r := random(1)
	for range 300 {
		if net := anyNet(r, 1+r.Intn(20), 10); !mesh.Valid(net) {
			t.Errorf("not valid: %v", net)
		}
	}
}

// P3.2: lists are read up to their length alone.
func TestValidReadsNoFurther(t *testing.T) {
	long := []api.Cell{cell("a", 1), cell("b", 1), cell("a", 9)}
	bad := []api.Item{couple(1), couple(1), couple(9)}
	if !mesh.Valid(long[:2]) || !mesh.Valid([]api.Cell{cell("a", 2, bad[:2]...)}) || !mesh.ValidItems(2, bad[:2]) {
		t.Error("Valid reads beyond the length")
	}
}

// tower returns a netlist of so many cells on 2 guides: the first one has one
// item, each other one as many times the one in front of it.
func tower(cells, times int, first ...api.Item) []api.Cell {
	net := []api.Cell{cell("t", 2, first...)}
	for i := 1; i < cells; i++ {
		name := net[i-1].Name
		net = append(net, cell("t"+string(rune('a'+i)), 2, slices.Repeat([]api.Item{use(name, 1)}, times)...))
	}
	return net
}

// P3.3
func TestFlat(t *testing.T) {
	for _, c := range []struct {
		net  []api.Cell
		want string
	}{
		{[]api.Cell{cell("a", 2, couple(1), phase(1, 4), couple(1)), cell("main", 3, use("a", 2), cross(1))}, "c2; p2 4; c2; x1"},
		{[]api.Cell{cell("a", 2)}, ""},
		{[]api.Cell{cell("a", 2, couple(1)), cell("b", 2)}, ""},
		{[]api.Cell{cell("a", 2, couple(1)), cell("b", 3, cross(2))}, "x2"},
		{[]api.Cell{cell("a", 1, phase(1, 3)), cell("b", 3, use("a", 3), cross(1), use("a", 1), use("a", 2)), cell("c", 6, use("b", 4), phase(1, 1), use("b", 1), use("a", 2))}, "p6 3; x4; p4 3; p5 3; p1 1; p3 3; x1; p1 3; p2 3; p2 3"},
	} {
		l, e := mesh.Flat(c.net)
		expectItems(t, fmt.Sprint("Flat of ", c.net), l, e, items(c.want), api.OK)
	}
	r := random(2)
	for range 300 {
		net := anyNet(r, 1+r.Intn(6), 8)
		want, err := flatten(net, len(net)-1, 0), api.OK
		if len(want) > api.MaxFlat {
			want, err = nil, api.ErrLimit
		}
		l, e := mesh.Flat(net)
		expectItems(t, fmt.Sprint("Flat of ", net), l, e, want, err)
		if e == api.OK && !mesh.ValidItems(net[len(net)-1].Guides, l) {
			t.Errorf("Flat of %v is not valid: %v", net, l)
		}
	}
}

// P3.3: MaxFlat
func TestFlatLimit(t *testing.T) {
	// 25 times 200 items, and further ones.
	hundreds := cell("h", 2, slices.Repeat([]api.Item{couple(1)}, 200)...)
	circuit := cell("c", 2, slices.Repeat([]api.Item{use("h", 1)}, 25)...)
	more := cell("c", 2, append(slices.Clone(circuit.Items), cross(1))...)
	early := cell("c", 2, append([]api.Item{cross(1)}, circuit.Items...)...)
	last := cell("d", 3, use("c", 2))
	none := cell("e", 2)
	for i, c := range []struct {
		net  []api.Cell
		size int
		err  api.Errno
	}{
		{[]api.Cell{hundreds, circuit}, 5000, api.OK},
		{[]api.Cell{hundreds, circuit, last}, 5000, api.OK},
		{[]api.Cell{hundreds, more}, 0, api.ErrLimit},
		{[]api.Cell{hundreds, early}, 0, api.ErrLimit},
		{[]api.Cell{hundreds, more, last}, 0, api.ErrLimit},
		{[]api.Cell{hundreds, more, cell("d", 2, cross(1))}, 1, api.OK}, // the large cell is not in the circuit
		{[]api.Cell{hundreds, circuit, cell("d", 2, use("c", 1), use("c", 1))}, 0, api.ErrLimit},
		{[]api.Cell{none, hundreds, circuit, cell("d", 2, use("e", 1), use("c", 1), use("e", 1))}, 5000, api.OK},
		{tower(13, 2, couple(1)), 4096, api.OK}, {tower(14, 2, couple(1)), 0, api.ErrLimit},
		{tower(20, 200, couple(1)), 0, api.ErrLimit},
		{tower(20, 200), 0, api.OK}, // 200^19 cells without items
		{append(tower(19, 200), cell("z", 2, couple(1), use("ts", 1), cross(1))), 2, api.OK},
		{append(tower(19, 200, couple(1)), cell("z", 2, couple(1))), 1, api.OK},
	} {
		l, e := mesh.Flat(c.net)
		if len(l) != c.size || e != c.err {
			t.Errorf("netlist %d: %d items, %d; want %d, %d", i, len(l), e, c.size, c.err)
		}
	}
}

// occurrences adds to uses how often each cell occurs in cell i.
func occurrences(net []api.Cell, i int, uses []int) {
	uses[i]++
	for _, x := range net[i].Items {
		if x.Kind == api.ItemCell {
			occurrences(net, slices.IndexFunc(net, func(c api.Cell) bool { return c.Name == x.Name }), uses)
		}
	}
}

// P3.3
func TestUses(t *testing.T) {
	for _, c := range []struct {
		net  []api.Cell
		want []int
	}{
		{[]api.Cell{cell("a", 2)}, []int{1}},
		{[]api.Cell{cell("a", 2), cell("b", 2)}, []int{0, 1}},
		{[]api.Cell{cell("a", 2), cell("b", 2, use("a", 1)), cell("c", 3, use("a", 1), use("b", 2), use("b", 1))}, []int{3, 2, 1}},
		{[]api.Cell{cell("a", 2), cell("b", 2, use("a", 1)), cell("c", 2, use("b", 1)), cell("d", 2, use("a", 1))}, []int{1, 0, 0, 1}},
		{tower(4, 3), []int{27, 9, 3, 1}},
	} {
		if l, e := mesh.Uses(c.net); !slices.Equal(l, c.want) || e != api.OK {
			t.Errorf("Uses(%v) = %v, %d; want %v", c.net, l, e, c.want)
		}
	}
	r := random(3)
	for range 300 {
		net := anyNet(r, 1+r.Intn(6), 8)
		want := make([]int, len(net))
		occurrences(net, len(net)-1, want)
		if l, e := mesh.Uses(net); !slices.Equal(l, want) || e != api.OK {
			t.Errorf("Uses(%v) = %v, %d; want %v", net, l, e, want)
		}
	}
}

// P3.3: 10^12 is 100^6.
func TestUsesLimit(t *testing.T) {
	net := tower(7, 100)
	if l, e := mesh.Uses(net); !slices.Equal(l, []int{1000000000000, 10000000000, 100000000, 1000000, 10000, 100, 1}) || e != api.OK {
		t.Errorf("Uses = %v, %d", l, e)
	}
	more := slices.Clone(net)
	more[6] = cell("z", 2, append(slices.Clone(net[6].Items), use("t", 1))...)
	whole := append(slices.Clone(net), cell("z", 2, use("tg", 1), use("t", 1)))
	for i, net := range [][]api.Cell{more, whole, tower(8, 100), tower(20, 200), tower(20, 200, couple(1)), append(tower(19, 200), cell("z", 2, use("ts", 1)))} {
		if l, e := mesh.Uses(net); len(l) != 0 || e != api.ErrLimit {
			t.Errorf("netlist %d: Uses = %v, %d", i, l, e)
		}
	}
	// Cells that are not in the circuit do not count.
	want := make([]int, 20)
	want[19] = 1
	if l, e := mesh.Uses(append(tower(19, 200), cell("z", 2))); !slices.Equal(l, want) || e != api.OK {
		t.Errorf("Uses = %v, %d", l, e)
	}
}
