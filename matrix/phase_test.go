package matrix_test

import (
	"fmt"
	"slices"
	"testing"

	"photonmesh/amp"
	"photonmesh/api"
	"photonmesh/matrix"
)

// P2.7
func TestMonomial(t *testing.T) {
	for _, c := range []struct {
		m           string
		perm, turns []int
	}{
		{"1", []int{0}, []int{0}}, {"w", []int{0}, []int{1}}, {"w2", []int{0}, []int{2}}, {"w3", []int{0}, []int{3}}, {"-1", []int{0}, []int{4}}, {"-w", []int{0}, []int{5}}, {"-w2", []int{0}, []int{6}}, {"-w3", []int{0}, []int{7}},
		{"0 w3 1 0", []int{1, 0}, []int{0, 3}}, {"1 0 0 0 0 w 0 -w2 0", []int{0, 2, 1}, []int{0, 6, 1}}, {"0 0 1 w 0 0 0 w2 0", []int{1, 2, 0}, []int{1, 2, 0}}, {"0 1 0 0 0 w 1 0 0", []int{2, 0, 1}, []int{0, 0, 1}},
		{"0", nil, nil}, {"2", nil, nil}, {"1/1", nil, nil}, {"1/40", nil, nil}, {"1+w", nil, nil}, {"1+w2", nil, nil}, {"w-w3", nil, nil}, {"1+w2+w3", nil, nil}, {"-1000000000", nil, nil},
		{"1 0 0 0", nil, nil}, {"1 1 0 0", nil, nil}, {"1 0 1 0", nil, nil}, {"0 1 0 1", nil, nil}, {"1 1 0 1", nil, nil}, {"1 0 1 1", nil, nil}, {"1 2 0 1", nil, nil}, {"0 0 0 0", nil, nil}, {"1 0 0 2", nil, nil}, {"2 0 0 1", nil, nil},
		{"1/1 w2/1 w2/1 1/1", nil, nil}, {"1 0 0 0 1 0 1 0 0", nil, nil}, {"1 0 0 0 1 0 0 0 1/1", nil, nil}, {"1 0 0 0 1 1/40 0 0 1", nil, nil},
	} {
		perm, turns, ok, e := matrix.Monomial(mat(c.m))
		if !slices.Equal(perm, c.perm) || !slices.Equal(turns, c.turns) || ok != (c.perm != nil) || e != api.OK {
			t.Errorf("Monomial(%s) = %v, %v, %v, %d", c.m, perm, turns, ok, e)
		}
	}
	s := source(10)
	for range 200 {
		want := s.perm(1 + s.below(6))
		m := s.monomial(want)
		perm, turns, ok, e := matrix.Monomial(m)
		if !slices.Equal(perm, want) || len(turns) != m.N || !ok || e != api.OK {
			t.Fatalf("Monomial(%v) = %v, %v, %v, %d", m, perm, turns, ok, e)
		}
		for column, n := range turns {
			if z, _ := amp.Turn(one, n); n < 0 || n > 7 || z != m.E[perm[column]*m.N+column] {
				t.Errorf("Monomial(%v): turns %v", m, turns)
			}
		}
		// Any other element that is not 0, or none in one place, is too much or too little.
		i := s.below(m.N * m.N)
		if m.E[i] != zero {
			m.E[i] = zero
		} else {
			m.E[i] = []api.Num{one, s.turn(), tiny}[s.below(3)]
		}
		if perm, turns, ok, e := matrix.Monomial(m); len(perm)+len(turns) != 0 || ok || e != api.OK {
			t.Errorf("Monomial(%v) = %v, %v, %v, %d", m, perm, turns, ok, e)
		}
	}
}

// P2.7
func TestAlike(t *testing.T) {
	for _, c := range []struct {
		a, b string
		want bool
	}{
		{"0", "0", true}, {"5/3", "5/3", true}, {"1", "-w3", true}, {"1+w", "w2+w3", true}, {"1+w", "1-w3", true}, {"1", "2", false}, {"0", "1", false}, {"1", "0", false}, {"1", "1/1", false}, {"w-w3", "2", false}, {"1+w", "1+w2", false},
		{"1 1 1 1", "1 1 1 1", true}, {"1 1 1 1", "w w2 w3 -1", true}, {"1 1 1 1", "1 1 1 w", false}, {"1 1 1 1", "1 1 1 -1", false}, {"1 1 1 -1", "1 w2 w2 1", true}, {"1/1 w2/1 w2/1 1/1", "1/1 1/1 1/1 -1/1", true}, {"1/1 w2/1 w2/1 1/1", "1/1 1/1 1/1 1/1", false},
		{"1 0 1 1", "w 0 w2 w3", true}, {"1 0 0 1", "0 1 1 0", false}, {"1 0 1 1", "1 1 0 1", false}, {"1 0 0 2", "w 0 0 2w3", true}, {"0 3 3 0", "0 -3 3w 0", true}, {"0 1 0 1", "0 w 0 w3", true}, {"0 0 0 0", "0 0 0 0", true}, {"0 0 0 0", "0 0 0 1", false},
		{"2 3 4 5", "2 4 3 5", false}, {"1+w 1 1 1", "1-w3 1 1 1", false}, {"1+w 1 1 1", "1-w3 -w3 1 1", true},
		// The cycles of four and of six elements are closed by the last one.
		{"1 1 0 0 1 1 1 0 1", "w w2 0 0 w w3 1 0 w3", true}, {"1 1 0 0 1 1 1 0 1", "w w2 0 0 w w3 1 0 w2", false},
		{"0 0 1 1 0 1 1 1 0", "0 0 1 1 0 w w 1 0", true}, {"1 0 0 0 1 1 0 1 1", "w 0 0 0 1 1 0 1 w", false},
	} {
		if is, e := matrix.Alike(mat(c.a), mat(c.b)); is != c.want || e != api.OK {
			t.Errorf("Alike(%s, %s) = %v, %d", c.a, c.b, is, e)
		}
	}
}

// scaled returns the matrix with powers of w for rows and columns, of which digits of 3 bits are taken.
func scaled(m api.Matrix, rows, columns int) api.Matrix {
	r := api.Matrix{N: m.N}
	for i, z := range m.E {
		z, _ = amp.Turn(z, rows>>(3*(i/m.N))+columns>>(3*(i%m.N)))
		r.E = append(r.E, z)
	}
	return r
}

// P2.7: all ways to choose powers of w
func TestAlikeByAllWays(t *testing.T) {
	s := source(11)
	alike := 0
	for range 300 {
		n := 1 + s.below(3)
		a := s.matrix(n, 1, 2)
		if s.below(2) == 0 {
			a = filled(n, s.num(1, 2))
			a.E[s.below(n*n)] = zero
		}
		b := scaled(a, s.below(1<<9), s.below(1<<9))
		for range s.below(3) {
			i := s.below(n * n)
			b.E[i], _ = amp.Turn(b.E[i], s.below(8))
		}
		want := false
		// The first row needs no power: those of all others can be chosen against it.
		for rows := 0; rows < 1<<(3*n) && !want; rows += 8 {
			want = true
			for column := 0; column < n && want; column++ {
				want = false
				for turn := 0; turn < 8 && !want; turn++ {
					c := scaled(a, rows, turn<<(3*column))
					want = true
					for i := column; i < n*n; i += n {
						want = want && c.E[i] == b.E[i]
					}
				}
			}
		}
		if want {
			alike++
		}
		if is, e := matrix.Alike(a, b); is != want || e != api.OK {
			t.Errorf("Alike(%v, %v) = %v, %d; want %v", a, b, is, e, want)
		}
	}
	if alike < 50 || alike > 250 {
		t.Errorf("%d of 300 are alike", alike)
	}
}

// P2.7: phases of larger matrices with few elements, and one element that is turned further
func TestAlikeOfLargeMatrices(t *testing.T) {
	s := source(12)
	for range 300 {
		n := 2 + s.below(5)
		a := s.matrix(n, 3, 4)
		for i := range a.E {
			if s.below(3) == 0 {
				a.E[i] = zero
			}
		}
		b := scaled(a, s.below(1<<18), s.below(1<<18))
		if is, e := matrix.Alike(a, b); !is || e != api.OK {
			t.Errorf("Alike(%v, %v) = %v, %d", a, b, is, e)
		}
		// Four elements in the corners make a cycle.
		for _, i := range []int{0, n - 1, n*n - n, n*n - 1} {
			a.E[i] = one
			b.E[i] = s.turn()
		}
		corners := [4]int{}
		for i, place := range []int{0, n - 1, n*n - n, n*n - 1} {
			_, turns, _, _ := matrix.Monomial(api.Matrix{N: 1, E: b.E[place : place+1]})
			corners[i] = turns[0]
		}
		closes := (corners[0]+corners[3]-corners[1]-corners[2])%8 == 0
		if is, e := matrix.Alike(a, b); is && !closes || e != api.OK {
			t.Errorf("Alike(%v, %v) = %v, %d", a, b, is, e)
		}
	}
}

// P2.7: rule R4
func TestMonomialSharesNoMemory(t *testing.T) {
	m := identity(6)
	perm, turns, _, _ := matrix.Monomial(m)
	for i := range perm {
		perm[i] = 9
	}
	perm = append(perm, 9)
	if fmt.Sprint(turns) != "[0 0 0 0 0 0]" || !same(m, identity(6)) {
		t.Errorf("Monomial: %v, %v, %v", perm, turns, m)
	}
}
