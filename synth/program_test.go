package synth_test

import (
	"slices"
	"testing"

	"photonmesh/amp"
	"photonmesh/api"
	"photonmesh/matrix"
	"photonmesh/mesh"
	"photonmesh/synth"
)

// greatest is the greatest exponent that is programmed, for each number of rows.
var greatest = [5]int{0, 40, 40, 12, 4}

// expectProgram reports a matrix for which Program has an error, or makes another one.
func expectProgram(t *testing.T, m api.Matrix) {
	t.Helper()
	kept := slices.Clone(m.E)
	l, e := synth.Program(m)
	if e != api.OK || !mesh.ValidItems(m.N, l) || !slices.Equal(m.E, kept) {
		t.Fatalf("Program(%v) = %s, %d", m, call("", l), e)
	}
	if got := matrixOf(t, m.N, l); !same(got, m) {
		t.Fatalf("Program(%v) makes %v", m, got)
	}
	expectCouplers(t, m, l)
}

// expectCouplers reports items that make a matrix with less couplers than Least of it.
func expectCouplers(t *testing.T, m api.Matrix, l []api.Item) {
	t.Helper()
	least, e := synth.Least(m)
	count, e2 := mesh.Count(m.N, l)
	if e != api.OK || e2 != api.OK || least != exponent(t, m) || count[api.ItemCouple] < least {
		t.Fatalf("Least(%v) = %d, %d; but %d couplers of %v make it", m, least, e, count[api.ItemCouple], l)
	}
}

// expectMatrixError reports a matrix for which Program and Least have other errors.
func expectMatrixError(t *testing.T, m api.Matrix, program, least api.Errno) {
	t.Helper()
	l, e := synth.Program(m)
	expectList(t, call("Program", m), l, e, nil, program)
	if n, e := synth.Least(m); e != least || least != api.OK && n != 0 {
		t.Errorf("%s = %d, %d; want error %d", call("Least", m), n, e, least)
	}
}

// filled returns the matrix of n rows that has this number in its diagonal.
func filled(n int, z api.Num) api.Matrix {
	m := unit(n)
	for i := range n {
		m.E[i*n+i] = z
	}
	return m
}

// P4.1, P4.5, P4.6
func TestInvalidMatrices(t *testing.T) {
	for _, n := range []int{0, -1, 7, 1 << 62, -1 << 63} {
		expectMatrixError(t, api.Matrix{N: n}, api.ErrMatrix, api.ErrMatrix)
		expectMatrixError(t, api.Matrix{N: n, E: []api.Num{one}}, api.ErrMatrix, api.ErrMatrix)
	}
	expectMatrixError(t, api.Matrix{N: 7, E: unit(7).E}, api.ErrMatrix, api.ErrMatrix)
	for n := 1; n <= 6; n++ {
		m := unit(n)
		expectMatrixError(t, api.Matrix{N: n}, api.ErrMatrix, api.ErrMatrix)
		expectMatrixError(t, api.Matrix{N: n, E: m.E[1:]}, api.ErrMatrix, api.ErrMatrix)
		expectMatrixError(t, api.Matrix{N: n, E: append(m.E, one)}, api.ErrMatrix, api.ErrMatrix)
		for _, z := range invalidNums {
			expectMatrixError(t, filled(n, z), api.ErrMatrix, api.ErrMatrix)
			last := unit(n)
			last.E[n*n-1] = z
			expectMatrixError(t, last, api.ErrMatrix, api.ErrMatrix)
		}
	}
}

// P4.5, P4.6: the size and the exponent are looked at before the matrix is found not to be unitary.
func TestProgramErrors(t *testing.T) {
	for _, z := range []api.Num{{}, {A: [4]int{2}}, {A: [4]int{1, 1}}, {A: [4]int{1}, K: 1}, {A: [4]int{1000000000, 1000000000, -1000000000, 1000000000}}, {A: [4]int{1, -1, 0, 1}}} {
		for n := 1; n <= 6; n++ {
			want := api.ErrUnitary
			if n > 4 {
				want = api.ErrLimit
			}
			expectMatrixError(t, filled(n, z), want, api.ErrUnitary)
			last := unit(n)
			last.E[n*n-1] = z
			expectMatrixError(t, last, want, api.ErrUnitary)
		}
	}
	for n := 1; n <= 4; n++ {
		for k := range 41 {
			want := api.ErrUnitary
			if k > greatest[n] {
				want = api.ErrLimit
			}
			m := filled(n, api.Num{A: [4]int{1}, K: k})
			m.E[0].A[0] = 3
			expectMatrixError(t, m, want, api.ErrUnitary)
			last := unit(n)
			last.E[n*n-1] = api.Num{A: [4]int{3, 2}, K: k}
			expectMatrixError(t, last, want, api.ErrUnitary)
		}
	}
	for n := 5; n <= 6; n++ {
		expectMatrixError(t, unit(n), api.ErrLimit, api.OK)
	}
	r := random(5)
	for i := range 50 {
		n := 2 + i%3
		m := matrixOf(t, n, anyItems(r, n, 10))
		if exponent(t, m) > greatest[n] {
			continue
		}
		// The rows of a unitary matrix are given up by any other number in it.
		place := r.Intn(n * n)
		m.E[place], _ = amp.Add(m.E[place], one)
		if is, _ := matrix.Unitary(m); !is && exponent(t, m) <= greatest[n] {
			expectMatrixError(t, m, api.ErrUnitary, api.ErrUnitary)
		}
	}
}

// P4.5, P4.8: powers of w at the places of a permutation.
func TestProgramMonomial(t *testing.T) {
	r := random(6)
	for n := 1; n <= 4; n++ {
		for _, perm := range allPerms(n) {
			for i := range 64 {
				m := api.Matrix{N: n, E: make([]api.Num, n*n)}
				for column, row := range perm {
					turn := i >> (3 * column) & 7
					if column > 1 {
						turn = r.Intn(8)
					}
					m.E[row*n+column], _ = amp.Turn(one, turn)
				}
				expectProgram(t, m)
			}
		}
	}
}

// P4.5, P4.8: all circuits of two guides with few couplers.
func TestProgramTwo(t *testing.T) {
	work := []api.Matrix{unit(2)}
	for range 4 {
		var next []api.Matrix
		for _, m := range work {
			for n := range 8 {
				turned, _ := then(m, phase(1, n))
				joined, _ := then(turned, couple(1))
				expectProgram(t, turned)
				next = append(next, joined)
			}
		}
		work = next
	}
}

// P4.5, P4.8: random circuits grow by one item after the other until their exponent is too great.
func TestProgram(t *testing.T) {
	r := random(7)
	for n := 2; n <= 4; n++ {
		var met [41]int
		for range []int{0, 0, 8, 25, 40}[n] {
			for m := unit(n); ; {
				next, ok := then(m, anyItems(r, n, 1)[0])
				if next, _ = then(next, phase(1+r.Intn(n), 1+2*r.Intn(4))); !ok {
					break
				}
				m = next
				if k := exponent(t, m); k > greatest[n] {
					expectMatrixError(t, m, api.ErrLimit, api.OK)
					break
				} else if k < 40 {
					met[k]++
					expectProgram(t, m)
				}
			}
		}
		for k, count := range met[:min(greatest[n]+1, 40)] {
			if count == 0 {
				t.Errorf("no matrix of %d rows with the exponent %d", n, k)
			}
		}
	}
}

// mostTurned returns a unitary matrix of 2 rows: a coupler behind each of the phases, in range at each step.
func mostTurned(t *testing.T, turns []int) (api.Matrix, []api.Item) {
	t.Helper()
	l := []api.Item{couple(1)}
	for _, n := range turns {
		l = append(l, phase(1, n), couple(1))
	}
	return exactly(t, 2, l), l
}

// P4.5, P4.8: every coupler behind an odd phase makes the exponent of the Powers greater by 1, which
// is 80 at most. With 80, the elements are those of a coupler behind others with the exponent 40,
// and MatrixOf has ErrLimit for every circuit: just there the product is formed otherwise.
func TestProgramGreatestExponent(t *testing.T) {
	r := random(8)
	for range 20 {
		turns := make([]int, 78)
		for i := range turns {
			turns[i] = 1 + 2*r.Intn(4)
		}
		for size := 70; size <= 78; size++ {
			m, made := mostTurned(t, turns[:size])
			if k := exponent(t, m); k != (size+3)/2 {
				t.Fatalf("%d couplers make the exponent %d", size+1, k)
			}
			if size < 78 {
				expectProgram(t, m)
				continue
			}
			if _, e := mesh.MatrixOf(2, made); e != api.ErrLimit {
				t.Fatalf("MatrixOf(%v): error %d", made, e)
			}
			l, e := synth.Program(m)
			if e != api.OK || !mesh.ValidItems(2, l) || !same(exactly(t, 2, l), m) {
				t.Errorf("Program(%v) = %v, %d", m, l, e)
			}
			expectCouplers(t, m, l)
		}
	}
}

// P4.6
func TestLeast(t *testing.T) {
	for _, c := range []struct {
		n    int
		text string
		want int
	}{
		{1, "", 0}, {2, "c1", 1}, {2, "c1; c1", 0}, {2, "c1; p1 4; c1", 0}, {2, "c1; p1 2; c1", 1}, {2, "c1; p1 1; c1", 2}, {6, "c1", 1}, {6, "c1; c3; c5", 1}, {6, "c1; c2; c3; c4; c5", 5}, {5, "x1; x3; p5 3", 0}, {3, "c1; c2", 2},
	} {
		if n, e := synth.Least(matrixOf(t, c.n, items(t, c.text))); n != c.want || e != api.OK {
			t.Errorf("Least of %s = %d, %d; want %d", c.text, n, e, c.want)
		}
	}
	r := random(9)
	for i := range 300 {
		n := 1 + i%6
		l := anyItems(r, n, r.Intn(25))
		expectCouplers(t, matrixOf(t, n, l), l)
	}
}

// P4.8: the matrix of the inverse circuit is programmed as well.
func TestProgramOfInverse(t *testing.T) {
	r := random(10)
	for i := range 200 {
		n := 1 + i%4
		l := anyItems(r, n, 12)
		m := matrixOf(t, n, l)
		if exponent(t, m) > greatest[n] {
			continue
		}
		back, e := mesh.Inverse(n, l)
		if e != api.OK {
			t.Fatalf("Inverse(%v): error %d", l, e)
		}
		program, e := synth.Program(matrixOf(t, n, back))
		dagger, e2 := matrix.Dagger(m)
		if e != api.OK || e2 != api.OK || !same(matrixOf(t, n, program), dagger) {
			t.Errorf("Program of the inverse of %v = %v, %d", l, program, e)
		}
		both, ok := slices.Concat(l, program), true
		for state := unit(n); len(both) > 0 && ok; both = both[1:] {
			state, ok = then(state, both[0])
			if len(both) == 1 && !same(state, unit(n)) {
				t.Errorf("%v and the program of its inverse make %v", l, state)
			}
		}
	}
}
