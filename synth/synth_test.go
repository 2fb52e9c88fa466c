package synth_test

import (
	"math"
	"slices"
	"testing"

	"photonmesh/api"
	"photonmesh/mesh"
	"photonmesh/synth"
)

// invalidItems are no flat items on 3 guides.
func invalidItems() [][]api.Item {
	l := [][]api.Item{slices.Repeat([]api.Item{cross(1)}, 5001)}
	for _, x := range []api.Item{{}, phase(1, 0), phase(1, 8), phase(0, 1), phase(4, 1), couple(0), couple(3), cross(3), cross(math.MaxInt), cross(math.MinInt), {Kind: 4, At: 1, Name: "a"}, {Kind: 5, At: 1}, {Kind: api.ItemCross, At: 1, N: 1}, {Kind: api.ItemCross, At: 1, Name: "a"}} {
		l = append(l, []api.Item{x}, []api.Item{cross(1), x}, []api.Item{x, cross(1), couple(1)}, []api.Item{couple(1), x})
	}
	return l
}

// expectUnequal reports calls of Equal that do not return false and this error.
func expectUnequal(t *testing.T, n int, l, m []api.Item, want api.Errno) {
	t.Helper()
	if is, e := synth.Equal(n, l, m); is || e != want {
		t.Errorf("%s = %v, %d; want error %d", call("Equal", n, l, m), is, e, want)
	}
}

// P4.1, P4.3, P4.6
func TestInvalidItems(t *testing.T) {
	fine := []api.Item{cross(1)}
	for _, l := range append(invalidItems(), fine, nil) {
		for _, n := range []int{0, -1, 7, math.MaxInt, math.MinInt} {
			if perm, ok, e := synth.PermOf(n, l); len(perm) != 0 || ok || e != api.ErrArg {
				t.Errorf("%s = %v, %v, %d", call("PermOf", n, l), perm, ok, e)
			}
			expectUnequal(t, n, l, fine, api.ErrArg)
			expectUnequal(t, n, fine, l, api.ErrArg)
		}
	}
	for _, l := range invalidItems() {
		if perm, ok, e := synth.PermOf(3, l); len(perm) != 0 || ok || e != api.ErrItem {
			t.Errorf("%s = %v, %v, %d", call("PermOf", 3, l), perm, ok, e)
		}
		expectUnequal(t, 3, l, fine, api.ErrItem)
		expectUnequal(t, 3, fine, l, api.ErrItem)
		expectUnequal(t, 3, l, l, api.ErrItem)
	}
}

// P4.6
func TestEqual(t *testing.T) {
	for _, c := range []struct {
		n    int
		l, m string
		want bool
	}{
		{1, "", "", true}, {6, "", "", true}, {1, "p1 3; p1 5", "", true}, {1, "p1 3", "p1 4", false}, {2, "c1; c1", "x1; p1 2; p2 2", true}, {2, "c1; c1", "x1", false}, {2, "c1; p1 4; c1; p1 4", "", true},
		{3, "x1; x2; x1", "x2; x1; x2", true}, {3, "c1; c2; c1", "c2; c1; c2", false}, {3, "x1; x2", "x2; x1", false}, {2, "p1 1; p2 1; c1", "c1; p1 1; p2 1", true}, {2, "p1 1; c1", "c1; p1 1", false},
		{2, "x1; c1", "c1; x1", true}, {4, "c1; c3", "c3; c1", true}, {6, "p6 7", "", false}, {6, "x5; p5 1", "p6 1; x5", true}, {3, "c1; c2", "c2; c1", false},
	} {
		l, m := items(t, c.l), items(t, c.m)
		for range 2 {
			if is, e := synth.Equal(c.n, l, m); is != c.want || e != api.OK {
				t.Errorf("Equal(%d, %v, %v) = %v, %d", c.n, l, m, is, e)
			}
			l, m = m, l
		}
	}
	r := random(11)
	for i := range 200 {
		n := 1 + i%6
		l := anyItems(r, n, r.Intn(20))
		tidy, e := mesh.Tidy(n, l)
		if is, e2 := synth.Equal(n, l, tidy); !is || e != api.OK || e2 != api.OK {
			t.Errorf("%v is not Equal to its Tidy %v: %d, %d", l, tidy, e, e2)
		}
		m := anyItems(r, n, r.Intn(4))
		want := same(matrixOf(t, n, l), matrixOf(t, n, m))
		if is, e := synth.Equal(n, l, m); is != want || e != api.OK {
			t.Errorf("Equal(%d, %v, %v) = %v, %d", n, l, m, is, e)
		}
	}
}

// P4.6: both lists are looked at before their matrices are formed.
func TestEqualLimit(t *testing.T) {
	long := slices.Repeat([]api.Item{couple(1), phase(1, 1)}, 100)
	if _, e := mesh.MatrixOf(3, long); e != api.ErrLimit {
		t.Fatalf("MatrixOf: error %d", e)
	}
	for _, l := range [][]api.Item{nil, {cross(1)}, long} {
		expectUnequal(t, 3, l, long, api.ErrLimit)
		expectUnequal(t, 3, long, l, api.ErrLimit)
	}
	for _, l := range invalidItems() {
		expectUnequal(t, 3, l, long, api.ErrItem)
		expectUnequal(t, 3, long, l, api.ErrItem)
	}
}

// R4: what a call has returned is not what the next one returns.
func TestNewResults(t *testing.T) {
	perm := []int{2, 0, 1}
	for range 2 {
		l, _ := synth.Crossings(perm)
		expectList(t, "Crossings", l, api.OK, []api.Item{cross(1), cross(2)}, api.OK)
		m, _ := synth.PermMatrix(perm)
		expectList(t, "PermMatrix", m.E, api.OK, []api.Num{{}, one, {}, {}, {}, one, one, {}, {}}, api.OK)
		back, _ := synth.Invert(perm)
		expectList(t, "Invert", back, api.OK, []int{1, 2, 0}, api.OK)
		s, _ := synth.Switch(1, 1)
		expectList(t, "Switch", s, api.OK, []api.Item{couple(1), phase(1, 1), couple(1)}, api.OK)
		program, _ := synth.Program(m)
		if !same(matrixOf(t, 3, program), m) {
			t.Errorf("Program makes %v", program)
		}
		clear(l)
		clear(back)
		clear(s)
		clear(program)
		clear(m.E)
	}
	if !slices.Equal(perm, []int{2, 0, 1}) {
		t.Errorf("the permutation has become %v", perm)
	}
}
