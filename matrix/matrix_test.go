package matrix_test

import (
	"fmt"
	"math"
	"slices"
	"testing"

	"photonmesh/amp"
	"photonmesh/api"
	"photonmesh/matrix"
)

// results are what a call returns, the error last.
type results []any

// wrong reports results that are not this error with zero values.
func (r results) wrong(want api.Errno) bool {
	for _, x := range r[:len(r)-1] {
		switch v := x.(type) {
		case api.Matrix:
			if v.N != 0 || len(v.E) != 0 {
				return true
			}
		case []api.Num:
			if len(v) != 0 {
				return true
			}
		case []int:
			if len(v) != 0 {
				return true
			}
		case api.Num:
			if v != zero {
				return true
			}
		case int:
			if v != 0 {
				return true
			}
		case bool:
			if v {
				return true
			}
		}
	}
	return r[len(r)-1] != want
}

func list(x ...any) results { return x }

// ofOne calls every function of one matrix.
func ofOne(m api.Matrix) map[string]results {
	l := map[string]results{}
	x, e := matrix.Dagger(m)
	l["Dagger"] = list(x, e)
	x, e = matrix.Transpose(m)
	l["Transpose"] = list(x, e)
	x, e = matrix.Powers(m)
	l["Powers"] = list(x, e)
	is, e := matrix.Unitary(m)
	l["Unitary"] = list(is, e)
	k, e := matrix.Exponent(m)
	l["Exponent"] = list(k, e)
	z, e := matrix.Permanent(m)
	l["Permanent"] = list(z, e)
	perm, turns, ok, e := matrix.Monomial(m)
	l["Monomial"] = list(perm, turns, ok, e)
	for _, p := range [][2][]int{{{1, 0}, {0, 1}}, {nil, {1}}, {{6}, {-1}}, {{0, 1, 0, 0, 0, 0, 0}, {5}}} {
		z, e = matrix.Amplitude(m, p[0], p[1])
		l[fmt.Sprint("Amplitude", p)] = list(z, e)
		z, n, e := matrix.Chance(m, p[0], p[1])
		l[fmt.Sprint("Chance", p)] = list(z, n, e)
	}
	for _, v := range [][]api.Num{vec("1"), vec("1 1"), vec("1 1 1 1 1 1"), nil} {
		r, e := matrix.Apply(m, v)
		l[fmt.Sprint("Apply to ", v)] = list(r, e)
	}
	return l
}

// ofTwo calls every function of two matrices.
func ofTwo(a, b api.Matrix) map[string]results {
	l := map[string]results{}
	x, e := matrix.Mul(a, b)
	l["Mul"] = list(x, e)
	x, e = matrix.Beside(a, b)
	l["Beside"] = list(x, e)
	is, e := matrix.Alike(a, b)
	l["Alike"] = list(is, e)
	return l
}

// P2.1
func TestInvalidMatricesComeFirst(t *testing.T) {
	for _, m := range invalidMatrices() {
		for name, r := range ofOne(m) {
			if r.wrong(api.ErrMatrix) {
				t.Errorf("%s of %v: %v", name, m, r)
			}
		}
		for _, other := range []api.Matrix{identity(1), identity(2), filled(6, top), m} {
			for name, r := range ofTwo(m, other) {
				if r.wrong(api.ErrMatrix) {
					t.Errorf("%s of %v and %v: %v", name, m, other, r)
				}
			}
			for name, r := range ofTwo(other, m) {
				if r.wrong(api.ErrMatrix) {
					t.Errorf("%s of %v and %v: %v", name, other, m, r)
				}
			}
		}
	}
	for _, v := range invalidVectors() {
		for _, m := range []api.Matrix{identity(1), identity(2), identity(6), filled(2, top)} {
			if r, e := matrix.Apply(m, v); list(r, e).wrong(api.ErrMatrix) {
				t.Errorf("Apply(%v, %v) = %v, %d", m, v, r, e)
			}
		}
		if z, e := matrix.Length(v); z != zero || e != api.ErrMatrix {
			t.Errorf("Length(%v) = %v, %d", v, z, e)
		}
	}
}

// P2.1: the elements of these matrices would lead to ErrLimit
func TestSizesComeNext(t *testing.T) {
	for n := 1; n <= 6; n++ {
		for o := 1; o <= 6; o++ {
			a, b := filled(n, top), filled(o, top)
			want := api.ErrSize
			if n == o {
				want = api.ErrLimit
			}
			if m, e := matrix.Mul(a, b); list(m, e).wrong(want) {
				t.Errorf("Mul of %d and %d rows = %v, %d", n, o, m, e)
			}
			if v, e := matrix.Apply(a, b.E[:o]); list(v, e).wrong(want) {
				t.Errorf("Apply of %d and %d rows = %v, %d", n, o, v, e)
			}
			if is, e := matrix.Alike(a, b); is != (n == o) || (e == api.OK) != (n == o) || n != o && e != api.ErrSize {
				t.Errorf("Alike of %d and %d rows = %v, %d", n, o, is, e)
			}
			full, half := make([]int, n), make([]int, o)
			full[0], half[0] = 6, -1
			want = api.ErrSize
			if n == o {
				want = api.ErrArg
			}
			if z, e := matrix.Amplitude(a, full, half); list(z, e).wrong(want) {
				t.Errorf("Amplitude of patterns of %d and %d modes = %v, %d", n, o, z, e)
			}
			if z, by, e := matrix.Chance(a, half, full); n != o && list(z, by, e).wrong(want) {
				t.Errorf("Chance of patterns of %d and %d modes = %v, %d, %d", n, o, z, by, e)
			}
		}
	}
}

// P2.2
func TestValid(t *testing.T) {
	for _, m := range invalidMatrices() {
		if matrix.Valid(m) {
			t.Errorf("Valid(%v)", m)
		}
	}
	for n := 1; n <= 6; n++ {
		for _, z := range []api.Num{zero, one, top, tiny, num(-1000000000, 1000000000, 5, -1000000000, 39)} {
			if !matrix.Valid(filled(n, z)) {
				t.Errorf("not Valid: %d rows of %v", n, z)
			}
		}
	}
	// What lies behind the length of a list is not read.
	l := vec("1 0 0 1 w w w w w")
	if !matrix.Valid(api.Matrix{N: 2, E: l[:4]}) || matrix.Valid(api.Matrix{N: 3, E: l[:4]}) {
		t.Error("Valid reads beyond the length")
	}
}

// P2.2
func TestIdentity(t *testing.T) {
	for n := 1; n <= 6; n++ {
		m, e := matrix.Identity(n)
		expectMatrix(t, fmt.Sprint("Identity ", n), m, e, identity(n), api.OK)
	}
	for _, n := range []int{0, -1, 7, math.MinInt, math.MaxInt} {
		m, e := matrix.Identity(n)
		expectMatrix(t, fmt.Sprint("Identity ", n), m, e, api.Matrix{}, api.ErrArg)
	}
}

// P2.2
func TestBeside(t *testing.T) {
	m, e := matrix.Beside(mat("1 2 3 4"), mat("w"))
	expectMatrix(t, "Beside", m, e, mat("1 2 0 3 4 0 0 0 w"), api.OK)
	m, e = matrix.Beside(mat("w"), mat("1 2 3 4"))
	expectMatrix(t, "Beside", m, e, mat("w 0 0 0 1 2 0 3 4"), api.OK)
	s := source(1)
	for n := 1; n <= 6; n++ {
		for o := 1; o <= 6; o++ {
			a, b := s.matrix(n, 1000000000, 40), s.matrix(o, 1000000000, 40)
			got, e := matrix.Beside(a, b)
			if n+o > 6 {
				expectMatrix(t, "Beside", got, e, api.Matrix{}, api.ErrLimit)
				continue
			}
			want := filled(n+o, zero)
			for i, z := range a.E {
				want.E[i/n*(n+o)+i%n] = z
			}
			for i, z := range b.E {
				want.E[(n+i/o)*(n+o)+n+i%o] = z
			}
			expectMatrix(t, "Beside", got, e, want, api.OK)
		}
	}
}

// byHand returns the sum of products, each step by package amp.
func byHand(x, y []api.Num) (api.Num, api.Errno) {
	var total api.Num
	for i := range x {
		p, e := amp.Mul(x[i], y[i])
		if e == api.OK {
			total, e = amp.Add(total, p)
		}
		if e != api.OK {
			return zero, e
		}
	}
	return total, api.OK
}

// mulByHand returns the product of two matrices, each step by package amp.
func mulByHand(a, b api.Matrix) (api.Matrix, api.Errno) {
	m := api.Matrix{N: a.N}
	for i := range a.E {
		var row, column []api.Num
		for j := range a.N {
			row = append(row, a.E[i/a.N*a.N+j])
			column = append(column, b.E[j*a.N+i%a.N])
		}
		z, e := byHand(row, column)
		if e != api.OK {
			return api.Matrix{}, e
		}
		m.E = append(m.E, z)
	}
	return m, api.OK
}

// applyByHand returns the product of a matrix and a vector, each step by package amp.
func applyByHand(m api.Matrix, v []api.Num) ([]api.Num, api.Errno) {
	var l []api.Num
	for i := range v {
		z, e := byHand(m.E[i*m.N:i*m.N+m.N], v)
		if e != api.OK {
			return nil, e
		}
		l = append(l, z)
	}
	return l, api.OK
}

// P2.3
func TestMulAndApply(t *testing.T) {
	m, e := matrix.Mul(mat("1 2 3 4"), mat("5 6 7 w"))
	expectMatrix(t, "Mul", m, e, mat("19 6+2w 43 18+4w"), api.OK)
	v, e := matrix.Apply(mat("1 2 3 w"), vec("1 w2"))
	if !slices.Equal(v, vec("1+2w2 3+w3")) || e != api.OK {
		t.Errorf("Apply = %v, %d", v, e)
	}
	s := source(2)
	fine, over := 0, 0
	for range 300 {
		n := 1 + s.below(6)
		size, k := []int{1, 5, 3000, 30000, 1000000000}[s.below(5)], []int{0, 3, 20, 40}[s.below(4)]
		a, b := s.matrix(n, size, k), s.matrix(n, size, k)
		want, err := mulByHand(a, b)
		got, e := matrix.Mul(a, b)
		expectMatrix(t, fmt.Sprint("Mul ", a, b), got, e, want, err)
		if e == api.OK {
			fine++
		} else {
			over++
		}
		x := s.vector(n, size, k)
		l, err := applyByHand(a, x)
		if v, e := matrix.Apply(a, x); !slices.Equal(v, l) || e != err {
			t.Errorf("Apply(%v, %v) = %v, %d; want %v, %d", a, x, v, e, l, err)
		}
	}
	if fine < 30 || over < 30 {
		t.Errorf("%d products in range, %d beyond it", fine, over)
	}
}

// P2.3: each step may return ErrLimit, in the order of the index
func TestStepsBeyondTheLimit(t *testing.T) {
	for _, c := range []struct {
		row, column string
		want        api.Num
		err         api.Errno
	}{
		{"1000000000 1 -1", "1 1 1", zero, api.ErrLimit},
		{"1000000000 -1 1", "1 1 1", top, api.OK},
		{"-1 1000000000 1", "1 1 1", top, api.OK},
		{"1000000000 1000000000 0", "2 -2 0", zero, api.ErrLimit},
		{"1/40 1/40 0", "1/1 -1/1 0", zero, api.ErrLimit},
		{"1/40 -1/40 1", "1 1 1", one, api.OK},
		{"1000000000 1/40 -1/40", "1 1 1", zero, api.ErrLimit},
		{"1/40 -1/40 1000000000", "1 1 1", top, api.OK},
	} {
		row, column := vec(c.row), vec(c.column)
		a, b := filled(3, zero), filled(3, zero)
		copy(a.E[6:], row)
		for i := range 3 {
			b.E[3*i+1] = column[i]
		}
		wantM, wantV := filled(3, zero), []api.Num{zero, zero, c.want}
		wantM.E[7] = c.want
		if c.err != api.OK {
			wantM, wantV = api.Matrix{}, nil
		}
		m, e := matrix.Mul(a, b)
		expectMatrix(t, "Mul with the row "+c.row, m, e, wantM, c.err)
		v, e := matrix.Apply(a, column)
		if !slices.Equal(v, wantV) || e != c.err {
			t.Errorf("Apply with the row %s = %v, %d", c.row, v, e)
		}
	}
}

// P2.3
func TestDaggerAndTranspose(t *testing.T) {
	m := mat("1 w w2 2 -w3 3+w 5/3 0 1/40")
	got, e := matrix.Transpose(m)
	expectMatrix(t, "Transpose", got, e, mat("1 2 5/3 w -w3 0 w2 3+w 1/40"), api.OK)
	got, e = matrix.Dagger(m)
	expectMatrix(t, "Dagger", got, e, mat("1 2 5/3 -w3 w 0 -w2 3-w3 1/40"), api.OK)
	s := source(3)
	for range 100 {
		n := 1 + s.below(6)
		m := s.matrix(n, 1000000000, 40)
		mirror, dagger := filled(n, zero), filled(n, zero)
		for i, z := range m.E {
			mirror.E[i%n*n+i/n] = z
			dagger.E[i%n*n+i/n], _ = amp.Conj(z)
		}
		got, e := matrix.Transpose(m)
		expectMatrix(t, "Transpose", got, e, mirror, api.OK)
		got, e = matrix.Dagger(m)
		expectMatrix(t, "Dagger", got, e, dagger, api.OK)
	}
}

// P2.4
func TestUnitary(t *testing.T) {
	for _, c := range []struct {
		m    string
		want bool
	}{
		{"1", true}, {"-w3", true}, {"0", false}, {"2", false}, {"1/1", false}, {"-1+w-w3", false}, {"1+w2", false}, {"1000000000", false}, {"1/40", false},
		{"1/1 w2/1 w2/1 1/1", true}, {"1/1 1/1 1/1 -1/1", true}, {"1/1 1/1 1/1 1/1", false}, {"1/1 w/1 w2/1 1/1", false}, {"1 0 0 0", false}, {"1 0 1 0", false}, {"1 1 0 1", false},
		{"1/2 1/2 1/2 1/2 1/2 -1/2 1/2 -1/2 1/2 1/2 -1/2 -1/2 1/2 -1/2 -1/2 1/2", true},
		{"1 0 0 0 1 1 0 0 1", false}, {"0 1 0 0 0 w 1 0 0", true}, {"1 0 0 0 1 0 0 0 2", false},
		{"1+w-w3 0 0 -1+w-w3", false}, {"-1+w-w3 0 0 1+w-w3", false},
		// This number is greater than 1 by less than 10^-9.
		{"768398402-543339720w+543339720w3", false},
	} {
		if is, e := matrix.Unitary(mat(c.m)); is != c.want || e != api.OK {
			t.Errorf("Unitary(%s) = %v, %d", c.m, is, e)
		}
	}
	for n := 1; n <= 6; n++ {
		for _, z := range []api.Num{top, tiny, num(1000000000, -1000000000, 1000000000, 1000000000, 0), num(999999999, 1000000000, 1000000000, -1000000000, 40)} {
			if is, e := matrix.Unitary(filled(n, z)); is || e != api.OK {
				t.Errorf("Unitary of %d rows of %v = %v, %d", n, z, is, e)
			}
		}
	}
}

// P2.4: the products are not in range, or do not fit into 64 bits
func TestUnitaryIsExact(t *testing.T) {
	s := source(4)
	beyond := 0
	for n := 2; n <= 6; n++ {
		for items := 0; items <= 300; items += 20 {
			m := s.unitary(n, items)
			dagger := must[api.Matrix](t)(matrix.Dagger(m))
			if _, e := matrix.Mul(m, dagger); e == api.ErrLimit {
				beyond++
			}
			if is, e := matrix.Unitary(m); !is || e != api.OK {
				t.Errorf("Unitary(%v) = %v, %d", m, is, e)
			}
			for range 5 {
				other := api.Matrix{N: n, E: slices.Clone(m.E)}
				i := s.below(n * n)
				z, e := amp.Add(other.E[i], s.turn())
				if e != api.OK {
					continue
				}
				other.E[i] = z
				if is, e := matrix.Unitary(other); is != light(t, other) || e != api.OK {
					t.Errorf("Unitary(%v) = %v, %d", other, is, e)
				}
			}
		}
	}
	if beyond < 10 {
		t.Errorf("only %d products were beyond the limit", beyond)
	}
}

// P2.4: multiplied by 2^40, these products are multiples of 2^64, where they are not those of the identity
func TestUnitaryDoesNotWrap(t *testing.T) {
	s := source(6)
	m := s.unitary(4, 2000)
	if k, e := matrix.Exponent(m); k != 40 || e != api.OK {
		t.Fatalf("Exponent = %d, %d", k, e)
	}
	for text, want := range map[string]bool{"1 536870912 0 1": false, "1 0 536870912 1": false, "1 0 0 1": true, "0 w w 0": true} {
		both := must[api.Matrix](t)(matrix.Beside(mat(text), m))
		if is, e := matrix.Unitary(both); is != want || e != api.OK {
			t.Errorf("Unitary of %s and another one = %v, %d", text, is, e)
		}
	}
}

// light reports whether a matrix multiplied by its Dagger is the identity, with numbers without limits.
func light(t *testing.T, m api.Matrix) bool {
	t.Helper()
	for row := range m.N {
		for other := range m.N {
			total := enlarge(zero)
			for k := range m.N {
				c := must[api.Num](t)(amp.Conj(m.E[other*m.N+k]))
				total = total.plus(enlarge(m.E[row*m.N+k]).times(enlarge(c)))
			}
			z, e := total.form()
			if e != api.OK || row == other && z != one || row != other && z != zero {
				return false
			}
		}
	}
	return true
}

// P2.4
func TestExponentAndPowers(t *testing.T) {
	for _, c := range []struct {
		m    string
		want int
	}{{"0", 0}, {"1/1 0 5/3 2", 3}, {"1/40 1/39 1/2 1", 40}, {"1 2 3 4 5 6 7 8 w/7", 7}, {"1/1 1/1 1/1 1/1", 1}} {
		if k, e := matrix.Exponent(mat(c.m)); k != c.want || e != api.OK {
			t.Errorf("Exponent(%s) = %d, %d", c.m, k, e)
		}
	}
	m, e := matrix.Powers(mat("1/1 w2/1 1+w -3w3"))
	expectMatrix(t, "Powers", m, e, mat("1/2 1/2 2+w-w3 9"), api.OK)
	m, e = matrix.Powers(mat("31622 0 0 1/20"))
	expectMatrix(t, "Powers", m, e, mat("999950884 0 0 1/40"), api.OK)
	for _, text := range []string{"31623 0 0 1", "1 0 0 31623", "1 0 0 1/21", "1000000000"} {
		m, e = matrix.Powers(mat(text))
		expectMatrix(t, "Powers of "+text, m, e, api.Matrix{}, api.ErrLimit)
	}
	s := source(5)
	for range 100 {
		m := s.matrix(1+s.below(6), 10000, 20)
		want := api.Matrix{N: m.N}
		for _, z := range m.E {
			want.E = append(want.E, must[api.Num](t)(amp.Power(z)))
		}
		got, e := matrix.Powers(m)
		expectMatrix(t, "Powers", got, e, want, api.OK)
	}
}

// P2.4
func TestLength(t *testing.T) {
	for _, c := range []struct {
		v    string
		want string
		err  api.Errno
	}{
		{"0", "0", api.OK}, {"w", "1", api.OK}, {"1 w2", "2", api.OK}, {"1/1 w3/1", "1", api.OK}, {"1+w 1", "3+w-w3", api.OK}, {"3 4", "25", api.OK}, {"1 1 1 1 1 1", "6", api.OK},
		{"22360 22360", "999939200", api.OK}, {"22361 22361", "0", api.ErrLimit}, {"31623", "0", api.ErrLimit}, {"1 1/21", "0", api.ErrLimit}, {"1/20", "1/40", api.OK},
		// A half more than the first number is not in range, but one more is.
		{"31622 1/1 1/1", "0", api.ErrLimit}, {"1/1 1/1 31622", "999950885", api.OK},
	} {
		z, e := matrix.Length(vec(c.v))
		expectNum(t, "Length of "+c.v, z, e, vec(c.want)[0], c.err)
	}
}
