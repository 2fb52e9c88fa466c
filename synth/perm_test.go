package synth_test

import (
	"slices"
	"testing"

	"photonmesh/api"
	"photonmesh/synth"
)

// P4.1, P4.2, P4.3
func TestInvalidPerms(t *testing.T) {
	for _, p := range invalidPerms() {
		if synth.ValidPerm(p) {
			t.Errorf("%s is true", call("ValidPerm", p))
		}
		if n, e := synth.Inversions(p); n != 0 || e != api.ErrPerm {
			t.Errorf("%s = %d, %d", call("Inversions", p), n, e)
		}
		if m, e := synth.PermMatrix(p); !empty(m) || e != api.ErrPerm {
			t.Errorf("%s = %v, %d", call("PermMatrix", p), m, e)
		}
		l, e := synth.Crossings(p)
		expectList(t, call("Crossings", p), l, e, nil, api.ErrPerm)
		q, e := synth.Invert(p)
		expectList(t, call("Invert", p), q, e, nil, api.ErrPerm)
		q, e = synth.Cycles(p)
		expectList(t, call("Cycles", p), q, e, nil, api.ErrPerm)
		for _, other := range [][]int{{0}, {1, 0}, counted(64), p} {
			q, e = synth.Compose(p, other)
			expectList(t, call("Compose", p, other), q, e, nil, api.ErrPerm)
			q, e = synth.Compose(other, p)
			expectList(t, call("Compose", other, p), q, e, nil, api.ErrPerm)
		}
	}
}

// P4.2
func TestPermExamples(t *testing.T) {
	for _, c := range []struct {
		perm       []int
		inversions int
		inverse    []int
		cycles     []int
	}{
		{[]int{0}, 0, []int{0}, []int{1}},
		{[]int{0, 1}, 0, []int{0, 1}, []int{1, 1}},
		{[]int{1, 0}, 1, []int{1, 0}, []int{2}},
		{[]int{2, 0, 1}, 2, []int{1, 2, 0}, []int{3}},
		{[]int{2, 1, 0}, 3, []int{2, 1, 0}, []int{1, 2}},
		{[]int{3, 0, 2, 4, 1}, 5, []int{1, 4, 2, 0, 3}, []int{1, 4}},
		{[]int{1, 2, 0, 4, 3, 5}, 3, []int{2, 0, 1, 4, 3, 5}, []int{1, 2, 3}},
	} {
		if n, e := synth.Inversions(c.perm); n != c.inversions || e != api.OK {
			t.Errorf("Inversions(%v) = %d, %d; want %d", c.perm, n, e, c.inversions)
		}
		l, e := synth.Invert(c.perm)
		expectList(t, call("Invert", c.perm), l, e, c.inverse, api.OK)
		l, e = synth.Cycles(c.perm)
		expectList(t, call("Cycles", c.perm), l, e, c.cycles, api.OK)
	}
	l, e := synth.Compose([]int{1, 2, 0}, []int{0, 2, 1})
	expectList(t, "Compose of 1, 2, 0 and 0, 2, 1", l, e, []int{1, 0, 2}, api.OK)
	l, e = synth.Compose([]int{0, 2, 1}, []int{1, 2, 0})
	expectList(t, "Compose of 0, 2, 1 and 1, 2, 0", l, e, []int{2, 1, 0}, api.OK)
}

// inversions counts the inversions of a permutation by their definition.
func inversions(perm []int) int {
	count := 0
	for k := range perm {
		for i := range k {
			if perm[i] > perm[k] {
				count++
			}
		}
	}
	return count
}

// cycles returns the lengths of the cycles: each is met as often as it has elements.
func cycles(perm []int) []int {
	var met [65]int
	for k := range perm {
		length := 1
		for at := perm[k]; at != k; at = perm[at] {
			length++
		}
		met[length]++
	}
	var l []int
	for length := 1; length < len(met); length++ {
		l = append(l, slices.Repeat([]int{length}, met[length]/length)...)
	}
	return l
}

// P4.2, P4.7
func TestPerms(t *testing.T) {
	for _, p := range somePerms() {
		kept := slices.Clone(p)
		if !synth.ValidPerm(p) {
			t.Fatalf("ValidPerm(%v) is false", p)
		}
		want := inversions(p)
		if n, e := synth.Inversions(p); n != want || e != api.OK {
			t.Errorf("Inversions(%v) = %d, %d; want %d", p, n, e, want)
		}
		back, e := synth.Invert(p)
		if e != api.OK || len(back) != len(p) {
			t.Fatalf("Invert(%v) = %v, %d", p, back, e)
		}
		if n, e := synth.Inversions(back); n != want || e != api.OK {
			t.Errorf("Inversions of the inverse of %v = %d, %d; want %d", p, n, e, want)
		}
		l, e := synth.Compose(p, back)
		expectList(t, call("Compose", p, back), l, e, counted(len(p)), api.OK)
		l, e = synth.Compose(back, p)
		expectList(t, call("Compose", back, p), l, e, counted(len(p)), api.OK)
		l, e = synth.Cycles(p)
		expectList(t, call("Cycles", p), l, e, cycles(p), api.OK)
		if !slices.Equal(p, kept) {
			t.Fatalf("%v has become %v", kept, p)
		}
	}
}

// P4.2
func TestCompose(t *testing.T) {
	perms := slices.Concat(allPerms(1), allPerms(2), allPerms(3), allPerms(4))
	for _, p := range perms {
		for _, q := range perms {
			l, e := synth.Compose(p, q)
			if len(p) != len(q) {
				expectList(t, call("Compose", p, q), l, e, nil, api.ErrArg)
				continue
			}
			var want []int
			for k := range q {
				want = append(want, p[q[k]])
			}
			expectList(t, call("Compose", p, q), l, e, want, api.OK)
		}
	}
	for n := range 64 {
		l, e := synth.Compose(counted(64), counted(n+1))
		want, err := counted(64), api.OK
		if n < 63 {
			want, err = nil, api.ErrArg
		}
		expectList(t, call("Compose of 64 and", n+1), l, e, want, err)
	}
}

// crossings returns the crossings of a permutation by the words of the document.
func crossings(perm []int) []api.Item {
	p := slices.Clone(perm)
	var l []api.Item
	for k := 0; k+1 < len(p); k++ {
		if p[k] > p[k+1] {
			p[k], p[k+1] = p[k+1], p[k]
			l = append(l, cross(k+1))
			k = -1
		}
	}
	return l
}

// P4.3, P4.7
func TestCrossings(t *testing.T) {
	l, e := synth.Crossings([]int{2, 0, 1})
	expectList(t, "Crossings of 2, 0, 1", l, e, []api.Item{cross(1), cross(2)}, api.OK)
	l, e = synth.Crossings([]int{2, 1, 0})
	expectList(t, "Crossings of 2, 1, 0", l, e, []api.Item{cross(1), cross(2), cross(1)}, api.OK)
	l, e = synth.Crossings([]int{3, 1, 0, 2})
	expectList(t, "Crossings of 3, 1, 0, 2", l, e, []api.Item{cross(1), cross(2), cross(1), cross(3)}, api.OK)
	for n := 1; n <= 6; n++ {
		for _, p := range allPerms(n) {
			kept := slices.Clone(p)
			l, e := synth.Crossings(p)
			expectList(t, call("Crossings", p), l, e, crossings(p), api.OK)
			if len(l) != inversions(p) {
				t.Errorf("Crossings(%v): %d items", p, len(l))
			}
			m, e := synth.PermMatrix(p)
			if e != api.OK || !same(m, matrixOf(t, n, l)) {
				t.Errorf("PermMatrix(%v) = %v, %d; but Crossings are %v", p, m, e, l)
			}
			for k, to := range p {
				if m.E[to*n+k] != one {
					t.Errorf("PermMatrix(%v) = %v: light of guide %d", p, m, k+1)
				}
			}
			perm, ok, e := synth.PermOf(n, l)
			if !slices.Equal(perm, p) || !ok || e != api.OK {
				t.Errorf("PermOf(%d, %v) = %v, %v, %d; want %v", n, l, perm, ok, e, p)
			}
			if !slices.Equal(p, kept) {
				t.Fatalf("%v has become %v", kept, p)
			}
		}
	}
}

// P4.3: a permutation of more than 6 is one, but has no crossings.
func TestCrossingsLimit(t *testing.T) {
	for _, p := range somePerms() {
		if len(p) < 7 {
			continue
		}
		l, e := synth.Crossings(p)
		expectList(t, call("Crossings", p), l, e, nil, api.ErrLimit)
		if m, e := synth.PermMatrix(p); !empty(m) || e != api.ErrLimit {
			t.Errorf("PermMatrix(%v) = %v, %d", p, m, e)
		}
	}
}

// P4.7: all that so many crossings make is gone through, from the identity on.
func TestFewestCrossings(t *testing.T) {
	for n := 1; n <= 6; n++ {
		key := func(p []int) (k [6]int) {
			copy(k[:], p)
			return k
		}
		first := counted(n)
		found := map[[6]int]int{key(first): 0}
		for work := [][]int{first}; len(work) > 0; work = work[1:] {
			p := work[0]
			fewest := found[key(p)]
			if l, e := synth.Crossings(p); len(l) != fewest || e != api.OK {
				t.Errorf("Crossings(%v) = %v, %d; want %d items", p, l, e, fewest)
			}
			for k := range n - 1 {
				q := slices.Clone(p)
				q[k], q[k+1] = q[k+1], q[k]
				if _, there := found[key(q)]; !there {
					found[key(q)] = fewest + 1
					work = append(work, q)
				}
			}
		}
	}
}

// P4.3
func TestPermOf(t *testing.T) {
	for _, c := range []struct {
		n    int
		text string
		want []int
	}{
		{1, "", []int{0}}, {6, "", []int{0, 1, 2, 3, 4, 5}}, {3, "x1; x2", []int{2, 0, 1}}, {3, "x2; x1", []int{1, 2, 0}}, {4, "x1; x2; x3", []int{3, 0, 1, 2}}, {2, "x1; x1", []int{0, 1}}, {6, "x5; x4", []int{0, 1, 2, 4, 5, 3}},
		{2, "c1", nil}, {1, "p1 1", nil}, {3, "x1; x2; p3 4", nil}, {3, "c2; x1; x2", nil}, {3, "x1; p1 4; p1 4; x2", nil}, {2, "c1; c1; p1 6; p2 6", nil},
	} {
		perm, ok, e := synth.PermOf(c.n, items(t, c.text))
		if !slices.Equal(perm, c.want) || ok != (c.want != nil) || e != api.OK {
			t.Errorf("PermOf(%d, %s) = %v, %v, %d; want %v", c.n, c.text, perm, ok, e, c.want)
		}
	}
	r := random(2)
	for i := range 200 {
		n := 2 + i%5
		l := anyCrossings(r, n, r.Intn(50))
		kept := slices.Clone(l)
		perm, ok, e := synth.PermOf(n, l)
		if !ok || e != api.OK || !slices.Equal(l, kept) {
			t.Fatalf("PermOf(%d, %v) = %v, %v, %d", n, kept, perm, ok, e)
		}
		if m, e := synth.PermMatrix(perm); e != api.OK || !same(m, matrixOf(t, n, l)) {
			t.Errorf("PermOf(%d, %v) = %v, whose matrix is %v, %d", n, l, perm, m, e)
		}
		if fewest, e := synth.Inversions(perm); fewest > len(l) || e != api.OK {
			t.Errorf("%v: %d inversions, but %d crossings", perm, fewest, len(l))
		}
	}
	long := slices.Repeat([]api.Item{cross(1)}, 5001)
	if perm, ok, e := synth.PermOf(2, long[:4999]); !slices.Equal(perm, []int{1, 0}) || !ok || e != api.OK {
		t.Errorf("PermOf of 4999 crossings = %v, %v, %d", perm, ok, e)
	}
	if perm, ok, e := synth.PermOf(2, long); len(perm) != 0 || ok || e != api.ErrItem {
		t.Errorf("PermOf of 5001 crossings = %v, %v, %d", perm, ok, e)
	}
}
