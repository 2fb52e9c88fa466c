package matrix

import (
	"math/bits"

	"photonmesh/amp"
	"photonmesh/api"
)

// sums is a matrix whose elements have one exponent: each is
// a[0] + a[1] w + a[2] w^2 + a[3] w^3, divided by r^k. The exponent is at most 40,
// so that no a is greater than 10^9 * 2^20, which is less than 2^50.
type sums struct {
	shape
	e [][4]int
	k int
}

// Unitary reports whether m multiplied by its Dagger is the identity.
func Unitary(m api.Matrix) (bool, api.Errno) {
	x, e := read(m)
	if e != api.OK {
		return false, e
	}
	s := x.exact()
	for row := range s.n {
		for other := range s.n {
			var want sum
			if row == other {
				// Both factors of each product are divided by r^k, and r^(2 k) is 2^k.
				want = widened([4]int{1 << s.k})
			}
			if s.overlap(row, other) != want {
				return false, api.OK
			}
		}
	}
	return true, api.OK
}

// exact returns m with the greatest exponent for all elements.
func (m numbers) exact() sums {
	s := sums{shape: m.shape, k: m.exponent()}
	for _, z := range m.e {
		a := z.A
		for range s.k - z.K {
			// r is w - w^3.
			a = [4]int{a[1] - a[3], a[0] + a[2], a[1] + a[3], a[2] - a[0]}
		}
		s.e = append(s.e, a)
	}
	return s
}

// overlap returns the product of a row and the conjugate of another one.
func (s sums) overlap(row, other int) sum {
	var total sum
	for column := range s.n {
		a := s.e[s.at(other, column)]
		conjugate := [4]int{a[0], -a[3], -a[2], -a[1]}
		total = total.plus(widened(s.e[s.at(row, column)]).times(conjugate))
	}
	return total
}

// permanent returns the permanent of the matrix; it is 1 if there is no row.
func (s sums) permanent() (api.Num, api.Errno) {
	// parts[set] is the permanent of the first rows, as many as there are columns in the set, and these columns.
	parts := make([]sum, 1<<s.n)
	parts[0] = widened([4]int{1})
	for set := range parts {
		row := bits.OnesCount(uint(set))
		for column := range s.n {
			with := set | 1<<column
			if with != set {
				parts[with] = parts[with].plus(parts[set].times(s.e[s.at(row, column)]))
			}
		}
	}
	return parts[len(parts)-1].number(s.n * s.k)
}

// sum is a sum of powers of w whose coefficients may be large.
type sum [4]wide

// widened returns a as a sum.
func widened(a [4]int) sum {
	var s sum
	for i, c := range a {
		s[i] = widen(c)
	}
	return s
}

// plus returns s + t.
func (s sum) plus(t sum) sum {
	for i := range s {
		s[i] = s[i].plus(t[i])
	}
	return s
}

// times returns s * a.
func (s sum) times(a [4]int) sum {
	var t sum
	for i := range s {
		for j := range a {
			p := s[i].times(a[j])
			if i+j < 4 {
				t[i+j] = t[i+j].plus(p)
			} else { // w^4 is -1
				t[i+j-4] = t[i+j-4].minus(p)
			}
		}
	}
	return t
}

// divided returns s / r, and whether that is such a sum again.
func (s sum) divided() (sum, bool) {
	// s / r is s * (w - w^3) / 2.
	t := sum{s[1].minus(s[3]), s[0].plus(s[2]), s[1].plus(s[3]), s[2].minus(s[0])}
	for i := range t {
		if t[i].odd() {
			return sum{}, false
		}
		t[i] = t[i].halved()
	}
	return t, true
}

// number returns the number s / r^k, or ErrLimit if it is not in range.
func (s sum) number(k int) (api.Num, api.Errno) {
	for k > 0 {
		t, ok := s.divided()
		if !ok {
			break
		}
		s = t
		k--
	}
	var a [4]int
	for i, x := range s {
		c, ok := x.narrow()
		if !ok {
			return api.Num{}, api.ErrLimit
		}
		a[i] = c
	}
	return amp.Make(a, k)
}
