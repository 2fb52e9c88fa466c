package matrix_test

import (
	"fmt"
	"math"
	"slices"
	"testing"

	"photonmesh/amp"
	"photonmesh/api"
	"photonmesh/matrix"
)

// coupler is the matrix of the document's example.
const coupler = "1/1 w2/1 w2/1 1/1"

// permanent returns the permanent by its definition, with numbers without limits.
func permanent(m api.Matrix) (api.Num, api.Errno) {
	total := enlarge(zero)
	used := make([]bool, m.N)
	var choose func(row int, product large)
	choose = func(row int, product large) {
		if row == m.N {
			total = total.plus(product)
			return
		}
		for column := range m.N {
			if z := m.E[row*m.N+column]; !used[column] && z != zero {
				used[column] = true
				choose(row+1, product.times(enlarge(z)))
				used[column] = false
			}
		}
	}
	choose(0, enlarge(one))
	return total.form()
}

// P2.5
func TestPermanent(t *testing.T) {
	for _, c := range []struct {
		m, want string
		err     api.Errno
	}{
		{"0", "0", api.OK}, {"w3/7", "w3/7", api.OK}, {"1 2 3 4", "10", api.OK}, {coupler, "0", api.OK}, {"1/1 1/1 1/1 -1/1", "0", api.OK}, {"1 2 3 4 5 6 7 8 9", "450", api.OK},
		{"1 1 1 1 1 1 1 1 1 1 1 1 1 1 1 1 1 1 1 1 1 1 1 1 1 1 1 1 1 1 1 1 1 1 1 1", "720", api.OK},
		// What is formed on the way is not in range.
		{"1000000000 -1000000000 1000000000 1000000000", "0", api.OK}, {"1/40 1/40 1/40 -1/40", "0", api.OK}, {"1000000000 1/38 1 1", "0", api.ErrLimit}, {"500000000 500000000 1 1", "1000000000", api.OK},
		{"500000000 500000001 1 1", "0", api.ErrLimit}, {"1/40 0 0 1/1", "0", api.ErrLimit}, {"1/40 1/20 1/20 0", "1/40", api.OK}, {"1/20 1/40 0 1/20", "1/40", api.OK}, {"1/40 1/40 1/1 1/1", "1/39", api.OK},
		{"536870912 536870912 1/40 1/40", "1024", api.OK}, {"-1000000000 0 0 1", "-1000000000", api.OK}, {"1000000000 1/40 -1/40 1/40", "0", api.ErrLimit},
		{"1000000000w 1000000000w 1/1 1/1", "1000000000+1000000000w2", api.OK}, {"1000000000w 1000000000w 2 2", "0", api.ErrLimit},
	} {
		z, e := matrix.Permanent(mat(c.m))
		expectNum(t, "Permanent of "+c.m, z, e, vec(c.want)[0], c.err)
	}
}

// P2.5
func TestPermanentIsExact(t *testing.T) {
	s := source(7)
	fine, over := 0, 0
	for i := range 240 {
		n := 1 + i%6
		size, k := []int{1, 3, 30, 1000, 1000000000}[s.below(5)], []int{0, 3, 12, 40}[s.below(4)]
		m := s.matrix(n, size, k)
		want, err := permanent(m)
		z, e := matrix.Permanent(m)
		expectNum(t, fmt.Sprint("Permanent of ", m), z, e, want, err)
		if e == api.OK && z != zero {
			fine++
		} else if e != api.OK {
			over++
		}
	}
	if fine < 50 || over < 50 {
		t.Errorf("%d permanents in range, %d beyond it", fine, over)
	}
}

// P2.5: the largest products that there are, which leave nothing
func TestLargestProducts(t *testing.T) {
	for n := 2; n <= 6; n++ {
		for _, z := range []api.Num{top, num(1000000000, 1000000000, 1000000000, -1000000000, 0), num(999999999, -1000000000, 999999998, 1000000000, 40)} {
			// The last two rows have z, -z and z, z in their last columns, whose permanent is 0, and nothing else.
			m := filled(n, z)
			for i := n*n - 2*n; i < n*n; i++ {
				if i%n < n-2 {
					m.E[i] = zero
				}
			}
			m.E[n*n-n-1], _ = amp.Neg(z)
			for _, m := range []api.Matrix{m, must[api.Matrix](t)(matrix.Transpose(m))} {
				got, e := matrix.Permanent(m)
				expectNum(t, fmt.Sprint("Permanent of ", m), got, e, zero, api.OK)
			}
		}
	}
}

// P2.5: permanents that are multiples of a high power of 2 are not 0
func TestPermanentDoesNotWrap(t *testing.T) {
	for n := 2; n <= 6; n++ {
		m := filled(n, zero)
		for i := range n {
			m.E[i*n+i] = num(0, 0, 1<<29, 0, 0)
		}
		z, e := matrix.Permanent(m)
		expectNum(t, fmt.Sprint("Permanent of ", m), z, e, zero, api.ErrLimit)
		// This element has no part in the permanent, but a high exponent.
		m.E[1] = tiny
		z, e = matrix.Permanent(m)
		expectNum(t, fmt.Sprint("Permanent of ", m), z, e, zero, api.ErrLimit)
	}
}

// P2.5: large rows and columns, multiplied by small ones, make a permanent in range
func TestLargeAndSmallRows(t *testing.T) {
	s := source(8)
	count := 0
	for i := range 400 {
		n := 2 + i%5
		small := s.matrix(n, 3, 2)
		want, err := matrix.Permanent(small)
		// The powers of 2 by which rows and columns are multiplied make 1 together.
		var rows, columns [6]int
		for range 60 {
			x, y := s.below(n), s.below(n)
			if rows[x]+columns[x] < 24 && rows[y]+columns[y] > -16 {
				rows[x]++
				columns[y]--
			}
		}
		m := api.Matrix{N: n}
		for i, z := range small.E {
			by := rows[i/n] + columns[i%n]
			z, e := amp.Mul(z, num(1<<max(0, by), 0, 0, 0, 0))
			z, e2 := amp.Halve(z, max(0, -2*by))
			if e != api.OK || e2 != api.OK {
				break
			}
			m.E = append(m.E, z)
		}
		if len(m.E) == n*n {
			z, e := matrix.Permanent(m)
			expectNum(t, fmt.Sprint("Permanent of ", m), z, e, want, err)
			count++
		}
	}
	if count < 100 {
		t.Errorf("only %d matrices", count)
	}
}

// P2.5
func TestAmplitudeAndChance(t *testing.T) {
	for _, c := range []struct {
		m       string
		in, out []int
		want    string
		power   string
		by      int
	}{
		{coupler, []int{1, 1}, []int{1, 1}, "0", "0", 1},
		{coupler, []int{1, 1}, []int{2, 0}, "w2", "1", 2},
		{coupler, []int{2, 0}, []int{1, 1}, "w2", "1", 2},
		{coupler, []int{2, 0}, []int{2, 0}, "1", "1", 4},
		{coupler, []int{2, 0}, []int{0, 2}, "-1", "1", 4},
		{coupler, []int{0, 0}, []int{0, 0}, "1", "1", 1},
		{coupler, []int{0, 1}, []int{1, 0}, "w2/1", "1/2", 1},
		{"1 2 3 4", []int{1, 0}, []int{0, 1}, "3", "9", 1},
		{"1 2 3 4", []int{0, 1}, []int{1, 0}, "2", "4", 1},
		{"1 2 3 4", []int{2, 0}, []int{1, 1}, "6", "36", 2},
		{"1 2 3 4", []int{1, 1}, []int{2, 0}, "4", "16", 2},
		{"1 2 3 4", []int{2, 1}, []int{0, 3}, "216", "46656", 12},
		{"w", []int{5}, []int{5}, "-120w", "14400", 14400},
		{"2", []int{0}, []int{0}, "1", "1", 1},
		{"1 2 3 4 5 6 7 8 9", []int{0, 0, 1}, []int{0, 1, 0}, "6", "36", 1},
		{"1000000000 0 0 1", []int{0, 5}, []int{0, 5}, "120", "14400", 14400},
		{"0 0 0 0", []int{0, 0}, []int{0, 0}, "1", "1", 1},
		{"1/20 0 0 1", []int{1, 0}, []int{1, 0}, "1/20", "1/40", 1},
	} {
		z, e := matrix.Amplitude(mat(c.m), c.in, c.out)
		expectNum(t, fmt.Sprint("Amplitude of ", c.m, c.in, c.out), z, e, vec(c.want)[0], api.OK)
		z, by, e := matrix.Chance(mat(c.m), c.in, c.out)
		expectNum(t, fmt.Sprint("Chance of ", c.m, c.in, c.out), z, e, vec(c.power)[0], api.OK)
		if by != c.by {
			t.Errorf("Chance of %s, %v, %v is divided by %d, want %d", c.m, c.in, c.out, by, c.by)
		}
	}
}

// repeated returns each index as often as the pattern says.
func repeated(p []int) []int {
	var l []int
	for i, n := range p {
		l = append(l, slices.Repeat([]int{i}, n)...)
	}
	return l
}

// P2.5
func TestAmplitudeOfAllPatterns(t *testing.T) {
	s := source(9)
	for modes := 1; modes <= 6; modes++ {
		for photons := 0; photons <= 5; photons++ {
			m := s.matrix(modes, []int{1, 20, 1000000000}[s.below(3)], []int{0, 9, 40}[s.below(3)])
			l := must[[][]int](t)(matrix.Patterns(modes, photons))
			for range 20 {
				in, out := l[s.below(len(l))], l[s.below(len(l))]
				chosen := api.Matrix{N: photons}
				for _, row := range repeated(out) {
					for _, column := range repeated(in) {
						chosen.E = append(chosen.E, m.E[row*modes+column])
					}
				}
				want, err := permanent(chosen)
				z, e := matrix.Amplitude(m, in, out)
				expectNum(t, fmt.Sprint("Amplitude of ", m, in, out), z, e, want, err)
				var power api.Num
				by := 1
				if err == api.OK {
					power, err = amp.Power(want)
				}
				for _, n := range slices.Concat(in, out) {
					by *= []int{1, 1, 2, 6, 24, 120}[n]
				}
				if err != api.OK {
					by = 0
				}
				z, n, e := matrix.Chance(m, in, out)
				expectNum(t, fmt.Sprint("Chance of ", m, in, out), z, e, power, err)
				if n != by {
					t.Errorf("Chance of %v, %v, %v is divided by %d, want %d", m, in, out, n, by)
				}
			}
		}
	}
}

// P2.5
func TestPatternsThatDoNotFit(t *testing.T) {
	for _, c := range []struct {
		in, out []int
		err     api.Errno
	}{
		{[]int{1}, []int{1, 0}, api.ErrSize}, {[]int{1, 0}, []int{1}, api.ErrSize}, {nil, nil, api.ErrSize}, {[]int{1, 0, 0}, []int{1, 0, 0}, api.ErrSize}, {[]int{-1}, []int{9, 9}, api.ErrSize}, {[]int{0, 6}, nil, api.ErrSize},
		{make([]int, 1000), []int{0, 0}, api.ErrSize}, {[]int{0, 0}, make([]int, 7), api.ErrSize},
		{[]int{1, 0}, []int{1, 1}, api.ErrArg}, {[]int{2, 0}, []int{0, 1}, api.ErrArg}, {[]int{0, 0}, []int{0, 1}, api.ErrArg}, {[]int{-1, 2}, []int{1, 0}, api.ErrArg}, {[]int{1, 0}, []int{2, -1}, api.ErrArg},
		{[]int{-1, 1}, []int{0, 0}, api.ErrArg}, {[]int{6, 0}, []int{6, 0}, api.ErrArg}, {[]int{3, 3}, []int{3, 3}, api.ErrArg}, {[]int{5, 1}, []int{1, 5}, api.ErrArg}, {[]int{5, 0}, []int{5, 1}, api.ErrArg}, {[]int{-1, -1}, []int{-1, -1}, api.ErrArg},
		{[]int{math.MaxInt, math.MaxInt}, []int{-1, -1}, api.ErrArg}, {[]int{math.MaxInt, math.MinInt}, []int{0, 0}, api.ErrArg}, {[]int{math.MinInt, math.MinInt}, []int{0, 0}, api.ErrArg}, {[]int{1, math.MaxInt}, []int{1, math.MaxInt}, api.ErrArg},
		{[]int{2, 0}, []int{2, 0}, api.ErrLimit}, {[]int{5, 0}, []int{0, 5}, api.ErrLimit},
	} {
		// All amplitudes of two photons or more are beyond the limit.
		m := filled(2, top)
		if z, e := matrix.Amplitude(m, c.in, c.out); z != zero || e != c.err {
			t.Errorf("Amplitude of %v, %v = %v, %d; want %d", c.in, c.out, z, e, c.err)
		}
		if z, by, e := matrix.Chance(m, c.in, c.out); z != zero || by != 0 || e != c.err {
			t.Errorf("Chance of %v, %v = %v, %d, %d; want %d", c.in, c.out, z, by, e, c.err)
		}
	}
	for _, p := range [][]int{{2, 2, 2}, {3, 0, 3}, {5, 0, 1}, {0, 1, 5}, {1, math.MaxInt, 0}, {1, 0, -1}} {
		if z, e := matrix.Amplitude(identity(3), p, p); z != zero || e != api.ErrArg {
			t.Errorf("Amplitude of %v = %v, %d", p, z, e)
		}
	}
	// The permanent is in range, but its Power is not.
	z, e := matrix.Amplitude(mat("31623"), []int{1}, []int{1})
	expectNum(t, "Amplitude", z, e, num(31623, 0, 0, 0, 0), api.OK)
	if z, by, e := matrix.Chance(mat("31623"), []int{1}, []int{1}); z != zero || by != 0 || e != api.ErrLimit {
		t.Errorf("Chance = %v, %d, %d", z, by, e)
	}
	if z, by, e := matrix.Chance(mat("1/21"), []int{1}, []int{1}); z != zero || by != 0 || e != api.ErrLimit {
		t.Errorf("Chance = %v, %d, %d", z, by, e)
	}
}

// P2.6
func TestPatterns(t *testing.T) {
	l, e := matrix.Patterns(2, 2)
	if fmt.Sprint(l) != "[[2 0] [1 1] [0 2]]" || e != api.OK {
		t.Errorf("Patterns(2, 2) = %v, %d", l, e)
	}
	l, e = matrix.Patterns(3, 2)
	if fmt.Sprint(l) != "[[2 0 0] [1 1 0] [1 0 1] [0 2 0] [0 1 1] [0 0 2]]" || e != api.OK {
		t.Errorf("Patterns(3, 2) = %v, %d", l, e)
	}
	for modes := 1; modes <= 6; modes++ {
		for photons := 0; photons <= 5; photons++ {
			// Every list of small numbers, in descending order, from which the patterns are chosen.
			var want [][]int
			p := slices.Repeat([]int{photons}, modes)
			for {
				sum := 0
				for _, n := range p {
					sum += n
				}
				if sum == photons {
					want = append(want, slices.Clone(p))
				}
				i := modes - 1
				for i >= 0 && p[i] == 0 {
					p[i] = photons
					i--
				}
				if i < 0 {
					break
				}
				p[i]--
			}
			l, e := matrix.Patterns(modes, photons)
			if fmt.Sprint(l) != fmt.Sprint(want) || e != api.OK {
				t.Errorf("Patterns(%d, %d) = %v, %d; want %v", modes, photons, l, e, want)
			}
		}
	}
	for _, c := range [][2]int{{0, 1}, {-1, 1}, {7, 1}, {math.MaxInt, 1}, {math.MinInt, 0}, {1, -1}, {2, 6}, {2, math.MaxInt}, {2, math.MinInt}, {0, 0}, {7, 6}} {
		if l, e := matrix.Patterns(c[0], c[1]); len(l) != 0 || e != api.ErrArg {
			t.Errorf("Patterns(%d, %d) = %v, %d", c[0], c[1], l, e)
		}
	}
}

// P2.6: rule R4, and rule 7 of the language
func TestPatternsShareNoMemory(t *testing.T) {
	l, _ := matrix.Patterns(6, 5)
	for i := range l {
		before := fmt.Sprint(l[:i], l[i+1:])
		l[i] = append(l[i], 9)
		for mode := range l[i] {
			l[i][mode] = 7
		}
		if after := fmt.Sprint(l[:i], l[i+1:]); after != before {
			t.Fatalf("pattern %d changes others", i)
		}
	}
}
