package synth

import (
	"iter"
	"slices"

	"photonmesh/api"
)

// ValidPerm reports whether perm is a permutation.
func ValidPerm(perm []int) bool {
	n := len(perm)
	if n == 0 || n > api.MaxPerm {
		return false
	}
	var used [api.MaxPerm]bool
	for _, k := range perm {
		if k < 0 || k >= n || used[k] {
			return false
		}
		used[k] = true
	}
	return true
}

// Inversions returns how many inversions a permutation has.
func Inversions(perm []int) (int, api.Errno) {
	if !ValidPerm(perm) {
		return 0, api.ErrPerm
	}
	count := 0
	// Every exchange of neighbours undoes just one inversion.
	for range exchanges(perm) {
		count++
	}
	return count, api.OK
}

// Compose returns what becomes of light that goes through q and then through p.
func Compose(p, q []int) ([]int, api.Errno) {
	if !ValidPerm(p) || !ValidPerm(q) {
		return nil, api.ErrPerm
	}
	if len(p) != len(q) {
		return nil, api.ErrArg
	}
	l := make([]int, len(q))
	for k, via := range q {
		l[k] = p[via]
	}
	return l, api.OK
}

// Invert returns the inverse permutation.
func Invert(perm []int) ([]int, api.Errno) {
	if !ValidPerm(perm) {
		return nil, api.ErrPerm
	}
	return inverse(perm), api.OK
}

// Cycles returns the lengths of the cycles of a permutation in ascending order.
func Cycles(perm []int) ([]int, api.Errno) {
	if !ValidPerm(perm) {
		return nil, api.ErrPerm
	}
	var lengths []int
	var seen [api.MaxPerm]bool
	for start := range perm {
		length := 0
		for k := start; !seen[k]; k = perm[k] {
			seen[k] = true
			length++
		}
		if length > 0 {
			lengths = append(lengths, length)
		}
	}
	slices.Sort(lengths)
	return lengths, api.OK
}

// exchanges yields the places k at which k and k + 1 are exchanged to sort a
// permutation: each time the first ones of which the greater number comes first.
func exchanges(perm []int) iter.Seq[int] {
	return func(yield func(k int) bool) {
		l := slices.Clone(perm)
		for k := descent(l); k >= 0; k = descent(l) {
			l[k], l[k+1] = l[k+1], l[k]
			if !yield(k) {
				return
			}
		}
	}
}

// descent returns the first place whose number is greater than the next one, or -1.
func descent(l []int) int {
	for k := range len(l) - 1 {
		if l[k] > l[k+1] {
			return k
		}
	}
	return -1
}

// inverse returns the inverse of a valid permutation.
func inverse(perm []int) []int {
	l := make([]int, len(perm))
	for k, to := range perm {
		l[to] = k
	}
	return l
}

// identity returns the permutation of n that changes nothing.
func identity(n int) []int {
	l := make([]int, n)
	for k := range l {
		l[k] = k
	}
	return l
}
