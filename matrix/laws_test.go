package matrix_test

import (
	"fmt"
	"slices"
	"testing"

	"photonmesh/amp"
	"photonmesh/api"
	"photonmesh/matrix"
)

// expectUnitary reports a matrix that is not unitary.
func expectUnitary(t *testing.T, what string, m api.Matrix) {
	t.Helper()
	if is, e := matrix.Unitary(m); !is || e != api.OK {
		t.Errorf("%s: Unitary(%v) = %v, %d", what, m, is, e)
	}
}

// P2.8
func TestProducts(t *testing.T) {
	s := source(13)
	count := 0
	for range 300 {
		n := 1 + s.below(6)
		size, k := []int{1, 3, 50}[s.below(3)], []int{0, 3, 9, 20}[s.below(4)]
		a, b, c := s.matrix(n, size, k), s.matrix(n, size, k), s.matrix(n, size, k)
		ab, e := matrix.Mul(a, b)
		if e != api.OK {
			continue
		}
		x := must[api.Matrix](t)(matrix.Dagger(ab))
		down, up := must[api.Matrix](t)(matrix.Dagger(a)), must[api.Matrix](t)(matrix.Dagger(b))
		if y, e := matrix.Mul(up, down); e == api.OK && !same(x, y) {
			t.Errorf("Dagger of the product of %v and %v: %v, %v", a, b, x, y)
		}
		bc, e := matrix.Mul(b, c)
		left, e2 := matrix.Mul(ab, c)
		if e != api.OK || e2 != api.OK {
			continue
		}
		if right, e := matrix.Mul(a, bc); e == api.OK && !same(left, right) {
			t.Errorf("(a b) c and a (b c) differ for %v, %v, %v", a, b, c)
		}
		count++
	}
	if count < 50 {
		t.Errorf("only %d products without an error", count)
	}
}

// P2.8
func TestProductsOfUnitaryMatrices(t *testing.T) {
	s := source(14)
	for i := range 120 {
		n := 1 + i%6
		a, b := s.unitary(n, 30), s.unitary(n, 30)
		expectUnitary(t, "one", a)
		expectUnitary(t, "product", must[api.Matrix](t)(matrix.Mul(a, b)))
		expectUnitary(t, "Dagger", must[api.Matrix](t)(matrix.Dagger(a)))
		expectUnitary(t, "Transpose", must[api.Matrix](t)(matrix.Transpose(a)))
		if n < 6 {
			expectUnitary(t, "Beside", must[api.Matrix](t)(matrix.Beside(a, s.unitary(6-n, 30))))
		}
	}
}

// P2.9
func TestLightIsKept(t *testing.T) {
	s := source(15)
	for i := range 200 {
		n := 1 + i%6
		m := s.unitary(n, 20)
		v := s.vector(n, 10, 4)
		before := must[api.Num](t)(matrix.Length(v))
		out := must[[]api.Num](t)(matrix.Apply(m, v))
		after, e := matrix.Length(out)
		expectNum(t, fmt.Sprint("Length of ", m, v), after, e, before, api.OK)
		powers := must[api.Matrix](t)(matrix.Powers(m))
		for _, p := range []api.Matrix{powers, must[api.Matrix](t)(matrix.Transpose(powers))} {
			for row := range n {
				total, e := amp.Sum(p.E[row*n : row*n+n])
				expectNum(t, fmt.Sprint("Sum of the Powers of ", m), total, e, one, api.OK)
			}
		}
	}
}

// P2.10
func TestPhotonsAreKept(t *testing.T) {
	s := source(16)
	for modes := 1; modes <= 6; modes++ {
		for photons := 0; photons <= 5; photons++ {
			m := s.unitary(modes, 8)
			l := must[[][]int](t)(matrix.Patterns(modes, photons))
			in := l[s.below(len(l))]
			var total api.Num
			for _, out := range l {
				power, by, e := matrix.Chance(m, in, out)
				if e != api.OK {
					t.Fatalf("Chance(%v, %v, %v): %d", m, in, out, e)
				}
				// 120 * 120 is a multiple of all numbers by which Powers may be divided.
				if by < 1 || 14400%by != 0 {
					t.Fatalf("Chance(%v, %v, %v) is divided by %d", m, in, out, by)
				}
				share := must[api.Num](t)(amp.Mul(power, num(14400/by, 0, 0, 0, 0)))
				total = must[api.Num](t)(amp.Add(total, share))
			}
			expectNum(t, fmt.Sprint("chances of ", m, in), total, api.OK, num(14400, 0, 0, 0, 0), api.OK)
		}
	}
}

// P2.10
func TestPermanentOfOtherOrders(t *testing.T) {
	s := source(17)
	for i := range 120 {
		n := 1 + i%6
		m := s.matrix(n, []int{1, 20, 1000000000}[s.below(3)], []int{0, 5, 40}[s.below(3)])
		want, err := matrix.Permanent(m)
		rows, columns := s.perm(n), s.perm(n)
		other := api.Matrix{N: n}
		for _, row := range rows {
			for _, column := range columns {
				other.E = append(other.E, m.E[row*n+column])
			}
		}
		z, e := matrix.Permanent(other)
		expectNum(t, fmt.Sprint("Permanent of ", other), z, e, want, err)
		z, e = matrix.Permanent(must[api.Matrix](t)(matrix.Transpose(m)))
		expectNum(t, fmt.Sprint("Permanent of the transpose of ", m), z, e, want, err)
	}
}

// P2.11
func TestAlikeIsSymmetric(t *testing.T) {
	s := source(18)
	for range 300 {
		n := 1 + s.below(6)
		a := s.matrix(n, 1, 1)
		b := scaled(a, s.below(1<<18), s.below(1<<18))
		for range s.below(2) {
			i := s.below(n * n)
			b.E[i] = s.num(1, 1)
		}
		x, e := matrix.Alike(a, b)
		y, e2 := matrix.Alike(b, a)
		if x != y || e != api.OK || e2 != api.OK {
			t.Errorf("Alike(%v, %v) = %v, %d; the other way round %v, %d", a, b, x, e, y, e2)
		}
	}
}

// P2.11
func TestMonomialFactorsAreAlike(t *testing.T) {
	s := source(19)
	for range 200 {
		n := 1 + s.below(6)
		a := s.matrix(n, 1000, 20)
		var perm []int
		for i := range n {
			perm = append(perm, i)
		}
		m := s.monomial(perm)
		for _, p := range []api.Matrix{must[api.Matrix](t)(matrix.Mul(a, m)), must[api.Matrix](t)(matrix.Mul(m, a))} {
			if is, e := matrix.Alike(p, a); !is || e != api.OK {
				t.Errorf("Alike(%v, %v) = %v, %d", p, a, is, e)
			}
		}
	}
}

// Rule R4
func TestResultsAreNewMemory(t *testing.T) {
	s := source(20)
	a, b := s.matrix(3, 5, 2), s.matrix(3, 5, 2)
	v := s.vector(3, 5, 2)
	in, out := []int{1, 1, 0}, []int{0, 0, 2}
	before := fmt.Sprint(a, b, v, in, out)
	unit := identity(3)
	var l []api.Matrix
	for _, f := range []func(api.Matrix) (api.Matrix, api.Errno){matrix.Dagger, matrix.Transpose, matrix.Powers} {
		l = append(l, must[api.Matrix](t)(f(a)))
	}
	for _, f := range []func(x, y api.Matrix) (api.Matrix, api.Errno){matrix.Mul, matrix.Beside} {
		l = append(l, must[api.Matrix](t)(f(a, b)), must[api.Matrix](t)(f(a, unit)), must[api.Matrix](t)(f(unit, a)))
	}
	r := must[[]api.Num](t)(matrix.Apply(unit, v))
	r[0] = tiny
	for _, m := range l {
		// Room behind the length, if there is any, belongs to the result as well.
		for i := range m.E[:cap(m.E)] {
			m.E[:cap(m.E)][i] = tiny
		}
	}
	ofOne(a)
	ofTwo(a, b)
	must[api.Num](t)(matrix.Permanent(a))
	must[api.Num](t)(matrix.Length(v))
	must[api.Num](t)(matrix.Amplitude(a, in, out))
	if after := fmt.Sprint(a, b, v, in, out); after != before || !same(unit, identity(3)) {
		t.Errorf("arguments change from %s to %s", before, after)
	}
	first := must[api.Matrix](t)(matrix.Identity(3))
	first.E[0] = zero
	if second := must[api.Matrix](t)(matrix.Identity(3)); !same(second, identity(3)) {
		t.Errorf("Identity = %v", second)
	}
	if slices.Equal(r, v) {
		t.Error("Apply has no new memory")
	}
}
