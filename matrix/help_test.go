package matrix_test

import (
	"math"
	"math/big"
	"slices"
	"strings"
	"testing"

	"photonmesh/amp"
	"photonmesh/api"
	"photonmesh/matrix"
)

// num returns the struct with these fields, valid or not.
func num(a, b, c, d, k int) api.Num {
	return api.Num{A: [4]int{a, b, c, d}, K: k}
}

var (
	zero = api.Num{}
	one  = num(1, 0, 0, 0, 0)
	top  = num(1000000000, 0, 0, 0, 0)
	tiny = num(1, 0, 0, 0, 40)
)

// vec returns the numbers with these texts.
func vec(texts string) []api.Num {
	var l []api.Num
	for _, text := range strings.Fields(texts) {
		z, e := amp.Parse(text)
		if e != api.OK {
			panic("no number: " + text)
		}
		l = append(l, z)
	}
	return l
}

// mat returns the matrix whose elements have these texts.
func mat(texts string) api.Matrix {
	l := vec(texts)
	return api.Matrix{N: int(math.Sqrt(float64(len(l)))), E: l}
}

// filled returns the matrix of n rows whose elements are all z.
func filled(n int, z api.Num) api.Matrix {
	return api.Matrix{N: n, E: slices.Repeat([]api.Num{z}, n*n)}
}

// identity returns the identity.
func identity(n int) api.Matrix {
	m := filled(n, zero)
	for i := range n {
		m.E[i*n+i] = one
	}
	return m
}

// invalidNums are no numbers.
var invalidNums = []api.Num{num(1000000001, 0, 0, 0, 0), num(0, 0, 0, math.MinInt, 0), num(1, 0, 1, 0, 1), num(0, 0, 0, 0, 1), num(1, 0, 0, 0, 41), num(1, 0, 0, 0, -1)}

// invalidVectors returns lists that are no vectors, for each reason why.
func invalidVectors() [][]api.Num {
	l := [][]api.Num{nil, {}, slices.Repeat([]api.Num{one}, 7), slices.Repeat([]api.Num{one}, 1000)}
	for _, z := range invalidNums {
		l = append(l, []api.Num{z}, []api.Num{one, z}, []api.Num{z, one, one, one, one, one})
	}
	return l
}

// invalidMatrices returns structs that are no matrices, for each reason why.
func invalidMatrices() []api.Matrix {
	l := []api.Matrix{{}, {N: 0, E: []api.Num{one}}, {N: 1}, {N: 2, E: vec("1 0 0")}, {N: 2, E: vec("1 0 0 1 0")}, {N: 7, E: slices.Repeat([]api.Num{one}, 49)},
		{N: -1, E: []api.Num{one}}, {N: -2, E: vec("1 0 0 1")}, {N: math.MaxInt, E: []api.Num{one}}, {N: math.MinInt}, {N: 1 << 32}, {N: -1 << 32}}
	for _, z := range invalidNums {
		for n := 1; n <= 6; n++ {
			for _, i := range []int{0, n*n - 1} {
				m := identity(n)
				m.E[i] = z
				l = append(l, m)
			}
		}
	}
	return l
}

// source returns the same numbers each time.
type source uint64

// below returns a number from 0 to n - 1.
func (s *source) below(n int) int {
	*s = *s*6364136223846793005 + 1442695040888963407
	return int(uint64(*s)>>33) % n
}

// num returns a number whose elements are at most size, with an exponent of at most k.
func (s *source) num(size, k int) api.Num {
	for {
		var a [4]int
		for i := range a {
			if s.below(3) != 0 {
				a[i] = s.below(2*size+1) - size
			}
		}
		if z, e := amp.Make(a, s.below(k+1)); e == api.OK {
			return z
		}
	}
}

// matrix returns a matrix of such numbers; some are 0.
func (s *source) matrix(n, size, k int) api.Matrix {
	m := filled(n, zero)
	for i := range m.E {
		if s.below(5) != 0 {
			m.E[i] = s.num(size, k)
		}
	}
	return m
}

// vector returns a vector of such numbers.
func (s *source) vector(n, size, k int) []api.Num {
	var l []api.Num
	for range n {
		l = append(l, s.num(size, k))
	}
	return l
}

// perm returns a permutation.
func (s *source) perm(n int) []int {
	var l []int
	for i := range n {
		l = slices.Insert(l, s.below(i+1), i)
	}
	return l
}

// turn returns a power of w.
func (s *source) turn() api.Num {
	z, _ := amp.Turn(one, s.below(8))
	return z
}

// monomial returns a monomial matrix with this permutation.
func (s *source) monomial(perm []int) api.Matrix {
	m := filled(len(perm), zero)
	for column, row := range perm {
		m.E[row*m.N+column] = s.turn()
	}
	return m
}

// unitary returns the product of so many couplers, phases and crossings, made
// without package matrix; the exponents grow until they are 40.
func (s *source) unitary(n, items int) api.Matrix {
	m := identity(n)
	for range items {
		kind, at, turn := s.below(3), s.below(n), s.below(8)
		if at == n-1 {
			kind = 0
		}
		full := slices.ContainsFunc(m.E, func(z api.Num) bool { return z.K == api.MaxExp })
		for column := range n {
			x := &m.E[at*n+column]
			switch kind {
			case 0:
				*x, _ = amp.Turn(*x, turn)
			case 1:
				y := &m.E[at*n+n+column]
				*x, *y = *y, *x
			case 2:
				if !full {
					couple(x, &m.E[at*n+n+column])
				}
			}
		}
	}
	return m
}

// couple makes (x + i y) / r and (i x + y) / r of x and y.
func couple(x, y *api.Num) {
	ix, _ := amp.Turn(*x, 2)
	iy, _ := amp.Turn(*y, 2)
	up, _ := amp.Add(*x, iy)
	down, _ := amp.Add(ix, *y)
	*x, _ = amp.Halve(up, 1)
	*y, _ = amp.Halve(down, 1)
}

// same reports whether two matrices are the same.
func same(a, b api.Matrix) bool {
	return a.N == b.N && slices.Equal(a.E, b.E)
}

// must returns the result of a call that has no error.
func must[T any](t *testing.T) func(x T, e api.Errno) T {
	return func(x T, e api.Errno) T {
		t.Helper()
		if e != api.OK {
			t.Fatalf("error %d", e)
		}
		return x
	}
}

// expectMatrix reports a call whose matrix or error is not the wanted one.
func expectMatrix(t *testing.T, call string, m api.Matrix, e api.Errno, want api.Matrix, err api.Errno) {
	t.Helper()
	if !same(m, want) || e != err {
		t.Errorf("%s = %v, %d; want %v, %d", call, m, e, want, err)
	}
	if e == api.OK && !matrix.Valid(m) {
		t.Errorf("%s: %v is not valid", call, m)
	}
}

// expectNum reports a call whose number or error is not the wanted one.
func expectNum(t *testing.T, call string, z api.Num, e api.Errno, want api.Num, err api.Errno) {
	t.Helper()
	if z != want || e != err {
		t.Errorf("%s = %v, %d; want %v, %d", call, z, e, want, err)
	}
}

// large is a number without limits: its sum, divided by r^k.
type large struct {
	a [4]*big.Int
	k int
}

func enlarge(z api.Num) large {
	x := large{k: z.K}
	for i := range x.a {
		x.a[i] = big.NewInt(int64(z.A[i]))
	}
	return x
}

func (x large) times(y large) large {
	z := enlarge(zero)
	for i := range x.a {
		for j := range y.a {
			p := new(big.Int).Mul(x.a[i], y.a[j])
			if i+j >= 4 {
				p.Neg(p)
			}
			z.a[(i+j)%4].Add(z.a[(i+j)%4], p)
		}
	}
	z.k = x.k + y.k
	return z
}

func (x large) plus(y large) large {
	z := enlarge(zero)
	z.k = max(x.k, y.k)
	for _, part := range []large{x, y} {
		for part.k < z.k {
			k := part.k + 1
			part = part.times(enlarge(num(0, 1, 0, -1, 0)))
			part.k = k
		}
		for i := range z.a {
			z.a[i].Add(z.a[i], part.a[i])
		}
	}
	return z
}

// form returns the valid number that x is, or ErrLimit.
func (x large) form() (api.Num, api.Errno) {
	for x.k > 0 {
		down := x.times(enlarge(num(0, 1, 0, -1, 0)))
		if slices.ContainsFunc(down.a[:], func(c *big.Int) bool { return c.Bit(0) == 1 }) {
			break
		}
		for _, c := range down.a {
			c.Rsh(c, 1)
		}
		x = large{down.a, x.k - 1}
	}
	z := api.Num{K: x.k}
	for i, c := range x.a {
		if c.CmpAbs(big.NewInt(api.MaxCoef)) > 0 {
			return zero, api.ErrLimit
		}
		z.A[i] = int(c.Int64())
	}
	if z.K > api.MaxExp {
		return zero, api.ErrLimit
	}
	return z, api.OK
}
