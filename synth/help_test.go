package synth_test

import (
	"fmt"
	"math"
	"math/rand"
	"slices"
	"strings"
	"testing"

	"photonmesh/amp"
	"photonmesh/api"
	"photonmesh/matrix"
	"photonmesh/mesh"
)

var one = api.Num{A: [4]int{1}}

func phase(at, n int) api.Item { return api.Item{Kind: api.ItemPhase, At: at, N: n} }

func couple(at int) api.Item { return api.Item{Kind: api.ItemCouple, At: at} }

func cross(at int) api.Item { return api.Item{Kind: api.ItemCross, At: at} }

// items returns the flat items with these texts, such as "c1; p1 4; x2".
func items(t *testing.T, text string) []api.Item {
	t.Helper()
	if text == "" {
		return nil
	}
	net, e := mesh.Parse("cell a 6: " + text + "\n")
	if e != api.OK {
		t.Fatalf("%q are no items: %d", text, e)
	}
	return net[0].Items
}

// num returns the number with this text.
func num(t *testing.T, text string) api.Num {
	t.Helper()
	z, e := amp.Parse(text)
	if e != api.OK {
		t.Fatalf("%q is no number: %d", text, e)
	}
	return z
}

// invalidNums are no numbers, for each reason why.
var invalidNums = []api.Num{{K: -1}, {K: 1}, {K: 41}, {A: [4]int{1}, K: 41}, {A: [4]int{1, 0, 1}, K: 1}, {A: [4]int{0, 1000000001}}, {A: [4]int{0, 0, 0, math.MinInt}}, {A: [4]int{1}, K: math.MaxInt}}

// invalidPerms are no permutations, for each reason why.
func invalidPerms() [][]int {
	long := counted(65)
	return [][]int{nil, {}, {1}, {-1}, {math.MaxInt}, {math.MinInt}, {0, 0}, {1, 1}, {1, 2}, {0, 2}, {2, 0}, {0, -1}, {0, 1, 1}, {2, 1, 2}, {0, 1, 3}, {1, 0, math.MinInt}, {0, 1, 2, 3, 4, 4},
		{6, 1, 2, 3, 4, 5}, {0, 1, 2, 3, 4, 5, 7}, long, append(counted(63), 64), append(counted(63), 0), make([]int, 64), make([]int, 1000000)}
}

// counted returns the numbers from 0 to n - 1.
func counted(n int) []int {
	l := make([]int, n)
	for k := range l {
		l[k] = k
	}
	return l
}

// allPerms returns all permutations of n.
func allPerms(n int) [][]int {
	if n == 0 {
		return [][]int{nil}
	}
	var l [][]int
	for _, p := range allPerms(n - 1) {
		for i := range n {
			l = append(l, slices.Insert(slices.Clone(p), i, n-1))
		}
	}
	return l
}

// somePerms returns all permutations of up to 5, and others of up to 64.
func somePerms() [][]int {
	var l [][]int
	for n := 1; n <= 5; n++ {
		l = append(l, allPerms(n)...)
	}
	r := random(1)
	for n := 6; n <= 64; n++ {
		back := counted(n)
		slices.Reverse(back)
		l = append(l, counted(n), back, r.Perm(n), r.Perm(n))
	}
	return l
}

// random returns the same numbers each time.
func random(seed int64) *rand.Rand { return rand.New(rand.NewSource(seed)) }

// anyItems returns so many flat items on n guides; many of them are couplers.
func anyItems(r *rand.Rand, n, size int) []api.Item {
	var l []api.Item
	for range size {
		switch kind := r.Intn(5); {
		case n == 1 || kind < 2:
			l = append(l, phase(1+r.Intn(n), 1+r.Intn(7)))
		case kind == 2:
			l = append(l, cross(1+r.Intn(n-1)))
		default:
			l = append(l, couple(1+r.Intn(n-1)))
		}
	}
	return l
}

// anyCrossings returns so many crossings on n guides, n > 1.
func anyCrossings(r *rand.Rand, n, size int) []api.Item {
	var l []api.Item
	for range size {
		l = append(l, cross(1+r.Intn(n-1)))
	}
	return l
}

// then returns the rows of m behind a flat item, and whether they are in range: sums are formed
// before they are divided, so that nothing leaves the range on the way to a number in range.
func then(m api.Matrix, x api.Item) (api.Matrix, bool) {
	m.E = slices.Clone(m.E)
	ok := true
	for column := range m.N {
		up := &m.E[(x.At-1)*m.N+column]
		if x.Kind == api.ItemPhase {
			*up, _ = amp.Turn(*up, x.N)
			continue
		}
		down := &m.E[x.At*m.N+column]
		if x.Kind == api.ItemCross {
			*up, *down = *down, *up
			continue
		}
		over, _ := amp.Turn(*up, 2)
		back, _ := amp.Turn(*down, 2)
		a, e := amp.Add(*up, back)
		b, e2 := amp.Add(over, *down)
		a, e3 := amp.Halve(a, 1)
		b, e4 := amp.Halve(b, 1)
		*up, *down = a, b
		ok = ok && e == api.OK && e2 == api.OK && e3 == api.OK && e4 == api.OK
	}
	return m, ok
}

// exactly returns the matrix of flat items, formed without matrices, which must be in range.
func exactly(t *testing.T, n int, l []api.Item) api.Matrix {
	t.Helper()
	m := unit(n)
	for _, x := range l {
		next, ok := then(m, x)
		if !ok {
			t.Fatalf("the matrix of %v leaves the range", l)
		}
		m = next
	}
	return m
}

// unit returns the identity of n rows.
func unit(n int) api.Matrix {
	m := api.Matrix{N: n, E: make([]api.Num, n*n)}
	for i := range n {
		m.E[i*n+i] = one
	}
	return m
}

// matrixOf returns the matrix of flat items, which must exist.
func matrixOf(t *testing.T, n int, l []api.Item) api.Matrix {
	t.Helper()
	m, e := mesh.MatrixOf(n, l)
	if e != api.OK {
		t.Fatalf("MatrixOf(%d, %v): error %d", n, l, e)
	}
	return m
}

// exponent returns the greatest exponent of a matrix.
func exponent(t *testing.T, m api.Matrix) int {
	t.Helper()
	k, e := matrix.Exponent(m)
	if e != api.OK {
		t.Fatalf("Exponent(%v): error %d", m, e)
	}
	return k
}

// same reports whether two matrices are the same.
func same(a, b api.Matrix) bool {
	return a.N == b.N && slices.Equal(a.E, b.E)
}

// empty reports whether a matrix is the zero value.
func empty(m api.Matrix) bool { return m.N == 0 && len(m.E) == 0 }

// expectList reports a call whose list or error are not the wanted ones.
func expectList[T comparable](t *testing.T, call string, l []T, e api.Errno, want []T, err api.Errno) {
	t.Helper()
	if !slices.Equal(l, want) || e != err {
		t.Errorf("%s = %v, %d; want %v, %d", short(call), l, e, want, err)
	}
}

// short returns the beginning of a text.
func short(text string) string {
	if len(text) > 300 {
		return text[:300] + strings.Repeat(".", 3)
	}
	return text
}

// call returns the text of a call with these arguments.
func call(name string, arguments ...any) string {
	return name + "(" + short(fmt.Sprint(arguments...)) + ")"
}
