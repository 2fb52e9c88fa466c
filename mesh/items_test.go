package mesh_test

import (
	"fmt"
	"math"
	"slices"
	"testing"

	"photonmesh/api"
	"photonmesh/mesh"
)

// expectError reports calls for flat items that do not return this error with zero values.
func expectError(t *testing.T, n int, l []api.Item, want api.Errno) {
	t.Helper()
	what := fmt.Sprintf("%d guides, %.200v", n, l)
	if m, e := mesh.MatrixOf(n, l); !empty(m) || e != want {
		t.Errorf("%s: MatrixOf = %v, %d", what, m, e)
	}
	for _, v := range [][]api.Num{nil, {one}, {{K: 1}}, {one, one}, make([]api.Num, 7)} {
		if v, e := mesh.Light(n, l, v); len(v) != 0 || e != want {
			t.Errorf("%s: Light = %v, %d", what, v, e)
		}
	}
	if c, e := mesh.Columns(n, l); len(c) != 0 || e != want {
		t.Errorf("%s: Columns = %v, %d", what, c, e)
	}
	if c, e := mesh.Count(n, l); c != [4]int{} || e != want {
		t.Errorf("%s: Count = %v, %d", what, c, e)
	}
	if r, e := mesh.Inverse(n, l); len(r) != 0 || e != want {
		t.Errorf("%s: Inverse = %v, %d", what, r, e)
	}
	if r, e := mesh.Tidy(n, l); len(r) != 0 || e != want {
		t.Errorf("%s: Tidy = %v, %d", what, r, e)
	}
	for _, c := range [][2]int{{0, 6}, {7, 6}, {0, 0}} {
		if r, e := mesh.Moved(n, l, c[0], c[1]); len(r) != 0 || e != want {
			t.Errorf("%s: Moved = %v, %d", what, r, e)
		}
	}
}

// P3.1
func TestInvalidItems(t *testing.T) {
	long := slices.Repeat([]api.Item{phase(1, 1)}, 5001)
	for _, n := range []int{0, -1, 7, math.MaxInt, math.MinInt} {
		expectError(t, n, nil, api.ErrArg)
		expectError(t, n, items("c1"), api.ErrArg)
		expectError(t, n, []api.Item{{}}, api.ErrArg)
		expectError(t, n, long, api.ErrArg)
	}
	for n := 1; n <= 6; n++ {
		for _, x := range invalidItems() {
			expectError(t, n, []api.Item{x}, api.ErrItem)
			expectError(t, n, []api.Item{phase(1, 1), x, phase(n, 1)}, api.ErrItem)
		}
		for _, x := range []api.Item{phase(n+1, 1), couple(n), couple(n + 1), cross(n), cross(n + 1)} {
			expectError(t, n, []api.Item{x}, api.ErrItem)
		}
		expectError(t, n, long, api.ErrItem)
	}
}

// P3.2
func TestValidItems(t *testing.T) {
	for _, n := range []int{0, -1, 7, math.MaxInt, math.MinInt} {
		if mesh.ValidItems(n, nil) || mesh.ValidItems(n, items("p1 1")) {
			t.Errorf("items on %d guides are valid", n)
		}
	}
	for n := 1; n <= 6; n++ {
		for _, x := range invalidItems() {
			if mesh.ValidItems(n, []api.Item{x}) || mesh.ValidItems(n, []api.Item{phase(n, 7), x}) {
				t.Errorf("%v is valid on %d guides", x, n)
			}
		}
		for at := 1; at <= 7; at++ {
			for x, want := range map[api.Item]bool{phase(at, 1): at <= n, phase(at, 7): at <= n, couple(at): at < n, cross(at): at < n} {
				if mesh.ValidItems(n, []api.Item{x}) != want {
					t.Errorf("%v on %d guides: valid is %v", x, n, !want)
				}
			}
		}
		if l := slices.Repeat([]api.Item{phase(n, 3)}, 5001); !mesh.ValidItems(n, l[:5000]) || mesh.ValidItems(n, l) || !mesh.ValidItems(n, nil) || !mesh.ValidItems(n, []api.Item{}) {
			t.Errorf("sizes of lists on %d guides", n)
		}
	}
}

// naiveColumns returns the columns by their definition.
func naiveColumns(l []api.Item) []int {
	columns := make([]int, len(l))
	for i, x := range l {
		columns[i] = 1
		for j, y := range l[:i] {
			if meet(x, y) {
				columns[i] = max(columns[i], columns[j]+1)
			}
		}
	}
	return columns
}

// P3.5
func TestColumns(t *testing.T) {
	for _, c := range []struct {
		n     int
		text  string
		want  []int
		count [4]int
	}{
		{3, "c2; p2 4; c2; x1", []int{1, 2, 3, 4}, [4]int{4, 1, 2, 1}},
		{1, "", nil, [4]int{}}, {6, "", nil, [4]int{}}, {6, "x5", []int{1}, [4]int{1, 0, 0, 1}},
		{6, "c1; c3; c5; c2; c4; p1 1; p6 1", []int{1, 1, 1, 2, 2, 2, 2}, [4]int{2, 2, 5, 0}},
		{6, "c1; c2; c3; c4; c5; p6 1; p1 1", []int{1, 2, 3, 4, 5, 6, 2}, [4]int{6, 2, 5, 0}},
		{3, "p1 1; p1 1; p1 1; p2 1; x2; x1", []int{1, 2, 3, 1, 2, 4}, [4]int{4, 4, 0, 2}},
	} {
		l := items(c.text)
		if got, e := mesh.Columns(c.n, l); !slices.Equal(got, c.want) || e != api.OK {
			t.Errorf("Columns of %q = %v, %d; want %v", c.text, got, e, c.want)
		}
		if got, e := mesh.Count(c.n, l); got != c.count || e != api.OK {
			t.Errorf("Count of %q = %v, %d; want %v", c.text, got, e, c.count)
		}
	}
	r := random(4)
	for i := range 300 {
		n := 1 + i%6
		l := anyItems(r, n, r.Intn(40))
		want := naiveColumns(l)
		got, e := mesh.Columns(n, l)
		if !slices.Equal(got, want) || e != api.OK {
			t.Errorf("Columns(%v) = %v, %d; want %v", l, got, e, want)
		}
		var count [4]int
		for i, x := range l {
			count[0] = max(count[0], want[i])
			count[x.Kind]++
		}
		if got, e := mesh.Count(n, l); got != count || e != api.OK {
			t.Errorf("Count(%v) = %v, %d; want %v", l, got, e, count)
		}
	}
}

// P3.6
func TestInverse(t *testing.T) {
	for text, want := range map[string]string{
		"": "", "p1 1": "p1 7", "p2 4": "p2 4", "x1": "x1", "c1": "p1 4; c1; p1 4", "c2; p2 3; x1; c1": "p1 4; c1; p1 4; x1; p2 5; p2 4; c2; p2 4", "p1 7; p2 6; p3 5": "p3 3; p2 2; p1 1",
	} {
		l, e := mesh.Inverse(3, items(text))
		expectItems(t, "Inverse of "+text, l, e, items(want), api.OK)
	}
	r := random(5)
	for i := range 100 {
		n := 1 + i%6
		l := anyItems(r, n, 20)
		var want []api.Item
		for _, x := range l {
			switch x.Kind {
			case api.ItemPhase:
				want = append([]api.Item{phase(x.At, 8-x.N)}, want...)
			case api.ItemCouple:
				want = append([]api.Item{phase(x.At, 4), x, phase(x.At, 4)}, want...)
			case api.ItemCross:
				want = append([]api.Item{x}, want...)
			}
		}
		got, e := mesh.Inverse(n, l)
		expectItems(t, fmt.Sprint("Inverse of ", l), got, e, want, api.OK)
		if !mesh.ValidItems(n, got) {
			t.Errorf("Inverse of %v is not valid", l)
		}
	}
}

// P3.6: 1666 couplers and 2 crossings have 5000 items.
func TestInverseLimit(t *testing.T) {
	l := append(slices.Repeat([]api.Item{couple(1)}, 1666), cross(1), cross(1))
	if r, e := mesh.Inverse(2, l); len(r) != 5000 || e != api.OK {
		t.Errorf("%d items, %d", len(r), e)
	}
	for _, x := range []api.Item{phase(1, 1), cross(1), couple(1)} {
		if r, e := mesh.Inverse(2, append(slices.Clone(l), x)); len(r) != 0 || e != api.ErrLimit {
			t.Errorf("behind 5000 items: %d items, %d", len(r), e)
		}
	}
	if r, e := mesh.Inverse(2, slices.Repeat([]api.Item{cross(1)}, 5000)); len(r) != 5000 || e != api.OK {
		t.Errorf("crossings: %d items, %d", len(r), e)
	}
	if r, e := mesh.Inverse(2, slices.Repeat([]api.Item{couple(1)}, 5000)); len(r) != 0 || e != api.ErrLimit {
		t.Errorf("couplers: %d items, %d", len(r), e)
	}
}

// naiveTidy tidies by the words of the document.
func naiveTidy(l []api.Item) []api.Item {
	var list []api.Item
	last := func(guide int) int {
		for i, x := range slices.Backward(list) {
			if touches(x, guide) {
				return i
			}
		}
		return -1
	}
	for _, x := range l {
		i := last(x.At)
		switch {
		case x.Kind == api.ItemPhase && i >= 0 && list[i].Kind == api.ItemPhase:
			list[i].N = (list[i].N + x.N) % 8
			if list[i].N == 0 {
				list = slices.Delete(list, i, i+1)
			}
		case x.Kind == api.ItemCross && i >= 0 && list[i].Kind == api.ItemCross && last(x.At+1) == i:
			list = slices.Delete(list, i, i+1)
		default:
			list = append(list, x)
		}
	}
	return list
}

// P3.6
func TestTidy(t *testing.T) {
	for text, want := range map[string]string{
		"": "", "x1; p3 5; x1; p3 3": "", "p1 1; p1 2": "p1 3", "p1 7; p1 2": "p1 1", "p1 4; p1 4": "", "p1 7; p1 7; p1 7": "p1 5",
		"p1 1; c2; p1 1": "p1 2; c2", "p1 1; c1; p1 1": "p1 1; c1; p1 1", "p1 1; p2 1; p1 1": "p1 2; p2 1", "p2 1; x1; p2 7": "p2 1; x1; p2 7",
		"x1; x1": "", "x1; x1; x1": "x1", "x1; x2; x1": "x1; x2; x1", "x1; x2; x2; x1": "", "x1; p1 1; x1": "x1; p1 1; x1", "x1; p2 1; x1": "x1; p2 1; x1", "x1; p1 1; p1 7; x1": "",
		"x1; c2; x1": "x1; c2; x1", "x1; x3; x2": "x1; x3; x2", "x1; x3; x2; x2; x1": "x3", "c1; c1": "c1; c1", "c1; x1; x1; c1": "c1; c1", "c1; x1; c1": "c1; x1; c1", "x1; c1; x1": "x1; c1; x1",
		"p1 3; x1; x1; p1 5": "", "p1 3; x1; c3; x1; p1 6; p3 1; p3 7": "p1 1; c3", "p1 1; x1; p1 4; p1 4; x1; p1 2": "p1 3", "x2; x1; x3; x3; x1; x2": "", "x3; p1 1; x3; p1 2; x1; p4 1; x1; p1 5": "p4 1",
	} {
		l, e := mesh.Tidy(4, items(text))
		expectItems(t, "Tidy of "+text, l, e, items(want), api.OK)
	}
	r := random(6)
	for i := range 2000 {
		n := 1 + i%6
		l := anyItems(r, n, r.Intn(60))
		if i%2 == 0 {
			l = slices.DeleteFunc(l, func(x api.Item) bool { return x.Kind == api.ItemCouple })
		}
		got, e := mesh.Tidy(n, l)
		expectItems(t, fmt.Sprint("Tidy of ", l), got, e, naiveTidy(l), api.OK)
	}
	if l, e := mesh.Tidy(6, slices.Repeat(items("x1; x2; x3; x4; x5; p6 1; p6 7; x5; x4; x3; x2; x1"), 416)); len(l) != 0 || e != api.OK {
		t.Errorf("Tidy of 4992 items = %v, %d", l, e)
	}
}

// P3.6
func TestMoved(t *testing.T) {
	for _, c := range []struct {
		n     int
		text  string
		by, m int
		want  string
		err   api.Errno
	}{
		{2, "c1; p2 3; x1", 0, 2, "c1; p2 3; x1", api.OK}, {2, "c1; p2 3; x1", 4, 6, "c5; p6 3; x5", api.OK}, {2, "c1; p2 3; x1", 1, 3, "c2; p3 3; x2", api.OK},
		{6, "c5; p6 3; x5", -4, 2, "c1; p2 3; x1", api.OK}, {6, "p6 1", -5, 1, "p1 1", api.OK}, {1, "p1 1", 5, 6, "p6 1", api.OK}, {6, "c1", 0, 2, "c1", api.OK},
		{2, "c1", 1, 2, "", api.ErrArg}, {2, "c1", 5, 6, "", api.ErrArg}, {2, "c1", -1, 6, "", api.ErrArg}, {6, "c5; p6 3; x5", -5, 6, "", api.ErrArg}, {6, "p6 1; p5 1", 0, 5, "", api.ErrArg},
		{2, "p2 1; x1", 5, 6, "", api.ErrArg}, {2, "x1; p2 1", 0, 1, "", api.ErrArg}, {6, "p6 1", -6, 6, "", api.ErrArg}, {1, "p1 1", 6, 6, "", api.ErrArg},
		{3, "", 6, 1, "", api.OK}, {3, "", -6, 6, "", api.OK}, {3, "", 7, 6, "", api.ErrArg}, {3, "", -7, 6, "", api.ErrArg}, {3, "", 0, 0, "", api.ErrArg}, {3, "", 0, 7, "", api.ErrArg}, {3, "", 0, -1, "", api.ErrArg},
		{3, "", math.MaxInt, 6, "", api.ErrArg}, {3, "", math.MinInt, 6, "", api.ErrArg}, {3, "", 0, math.MaxInt, "", api.ErrArg}, {3, "", 0, math.MinInt, "", api.ErrArg},
		{3, "p1 1; c2", math.MaxInt, 6, "", api.ErrArg}, {3, "p1 1; c2", math.MinInt, 6, "", api.ErrArg},
	} {
		l, e := mesh.Moved(c.n, items(c.text), c.by, c.m)
		expectItems(t, fmt.Sprint("Moved ", c), l, e, items(c.want), c.err)
	}
}
