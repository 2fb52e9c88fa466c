package heat_test

import (
	"fmt"
	"math"
	"math/big"
	"math/rand"
	"slices"
	"strings"
	"testing"

	"photonmesh/api"
	"photonmesh/heat"
)

// gains returns the bank with these rows.
func gains(rows ...[]int) api.Bank { return api.Bank{Gain: rows} }

// example is the bank of the document's example.
func example() api.Bank { return gains([]int{100, 10}, []int{20, 100}) }

// invalidBanks are no banks, for each reason why.
func invalidBanks() []api.Bank {
	l := []api.Bank{{}, gains(), gains(nil), gains([]int{}), gains([]int{1, 2}), gains([]int{1}, []int{2}), gains([]int{1, 2}, nil), gains(nil, []int{1, 2}), gains([]int{1, 2}, []int{3}),
		gains([]int{1, 2}, []int{3, 4, 5}), gains([]int{1, 2}), gains([]int{1, 2, 3}, []int{4, 5, 6}), gains([]int{1, 2}, []int{3, 4}, []int{5, 6}), filled(6, 1), filled(50, 0)}
	for _, g := range []int{201, -201, 1000000, math.MaxInt, math.MinInt} {
		for n := 1; n <= 5; n++ {
			first, last := filled(n, 0), filled(n, 200)
			first.Gain[0][0], last.Gain[n-1][n-1] = g, g
			l = append(l, first, last)
		}
	}
	return l
}

// filled returns n rows of n numbers that are the same.
func filled(n, g int) api.Bank {
	var b api.Bank
	for range n {
		b.Gain = append(b.Gain, slices.Repeat([]int{g}, n))
	}
	return b
}

// diagonal returns the bank without cross talk.
func diagonal(l ...int) api.Bank {
	b := filled(len(l), 0)
	for i, g := range l {
		b.Gain[i][i] = g
	}
	return b
}

// random returns the same numbers each time.
func random(seed int64) *rand.Rand { return rand.New(rand.NewSource(seed)) }

// anyBank returns a bank of n, with gains of any size; some have a Det of 0.
func anyBank(r *rand.Rand, n int) api.Bank {
	b := filled(n, 0)
	most := []int{1, 2, 5, 20, 200}[r.Intn(5)]
	for _, row := range b.Gain {
		for k := range row {
			row[k] = between(r, -most, most)
		}
	}
	if r.Intn(4) == 0 {
		b.Gain[r.Intn(n)] = slices.Clone(b.Gain[r.Intn(n)])
	}
	return b
}

// anyDominant returns a bank of n that is Dominant.
func anyDominant(r *rand.Rand, n int) api.Bank {
	b := filled(n, 0)
	for i, row := range b.Gain {
		rest := 0
		for k := range row {
			row[k] = between(r, -30, 30)
			rest += abs(row[k])
		}
		rest -= abs(row[i])
		row[i] = between(r, rest+1, 200)
		if r.Intn(2) == 0 {
			row[i] = -row[i]
		}
	}
	return b
}

// someBanks returns banks of each size: those at the limits, and others drawn at random.
func someBanks(seed int64, more int) []api.Bank {
	l := []api.Bank{example()}
	r := random(seed)
	for n := 1; n <= 5; n++ {
		l = append(l, filled(n, 0), filled(n, 1), filled(n, 200), filled(n, -200), diagonal(slices.Repeat([]int{200}, n)...), diagonal(slices.Repeat([]int{-1}, n)...))
		for range more {
			l = append(l, anyBank(r, n), anyDominant(r, n))
		}
		for range 10 { // all gains at the limits: the greatest determinants
			b := filled(n, 200)
			for i := range n * n {
				b.Gain[i/n][i%n] *= 2*r.Intn(2) - 1
			}
			l = append(l, b)
		}
	}
	return l
}

// between returns a number from least to most.
func between(r *rand.Rand, least, most int) int { return least + r.Intn(most-least+1) }

// anyList returns n numbers from least to most; many of them are at the limits.
func anyList(r *rand.Rand, n, least, most int) []int {
	var l []int
	for range n {
		switch r.Intn(6) {
		case 0:
			l = append(l, least)
		case 1:
			l = append(l, most)
		default:
			l = append(l, between(r, least, most))
		}
	}
	return l
}

func anyPhases(r *rand.Rand, n int) []int { return anyList(r, n, -1000000, 1000000) }

func anyPowers(r *rand.Rand, n int) []int { return anyList(r, n, 0, 1000) }

// notLists are not lists of n numbers from least to most, for each reason why.
func notLists(n, least, most int) [][]int {
	l := [][]int{slices.Repeat([]int{0}, n+1), slices.Repeat([]int{0}, n-1), slices.Repeat([]int{0}, 1000), nil}
	for _, x := range []int{least - 1, most + 1, math.MinInt, math.MaxInt} {
		for k := range n {
			list := slices.Repeat([]int{0}, n)
			list[k] = x
			l = append(l, list)
		}
	}
	return l
}

func notPhases(n int) [][]int { return notLists(n, -1000000, 1000000) }

func notPowers(n int) [][]int { return notLists(n, 0, 1000) }

// abs returns the absolute value of x.
func abs(x int) int {
	if x < 0 {
		return -x
	}
	return x
}

// total returns the sum of a list.
func total(l []int) int {
	sum := 0
	for _, x := range l {
		sum += x
	}
	return sum
}

// turned returns by how much powers turn each guide.
func turned(b api.Bank, powers []int) []int {
	var l []int
	for _, row := range b.Gain {
		sum := 0
		for k, g := range row {
			sum += g * powers[k]
		}
		l = append(l, sum)
	}
	return l
}

// offBy returns by how much more than wanted powers turn each guide.
func offBy(b api.Bank, want, powers []int) []int {
	l := turned(b, powers)
	for i := range l {
		l[i] -= want[i]
	}
	return l
}

// fraction returns a ratio as a fraction.
func fraction(q api.Ratio) *big.Rat { return big.NewRat(int64(q.N), int64(q.D)) }

// ratioOf returns a fraction as a ratio.
func ratioOf(q *big.Rat) api.Ratio {
	return api.Ratio{N: int(q.Num().Int64()), D: int(q.Denom().Int64())}
}

// eliminate returns the determinant of a bank by elimination of its rows, and,
// if it is not 0, what the bank turns into the lists of want.
func eliminate(b api.Bank, want ...[]int) (*big.Rat, [][]api.Ratio) {
	var rows [][]*big.Rat
	for i, row := range b.Gain {
		var l []*big.Rat
		for _, x := range row {
			l = append(l, big.NewRat(int64(x), 1))
		}
		for _, w := range want {
			l = append(l, big.NewRat(int64(w[i]), 1))
		}
		rows = append(rows, l)
	}
	n := len(rows)
	det := big.NewRat(1, 1)
	for k := range n {
		pivot := slices.IndexFunc(rows[k:], func(l []*big.Rat) bool { return l[k].Sign() != 0 })
		if pivot < 0 {
			return new(big.Rat), nil
		}
		if pivot > 0 {
			rows[k], rows[k+pivot] = rows[k+pivot], rows[k]
			det.Neg(det)
		}
		det.Mul(det, rows[k][k])
		for j := len(rows[k]) - 1; j >= k; j-- {
			rows[k][j] = new(big.Rat).Quo(rows[k][j], rows[k][k])
		}
		for i := range n {
			for j := len(rows[k]) - 1; i != k && j >= k; j-- {
				product := new(big.Rat).Mul(rows[i][k], rows[k][j])
				rows[i][j] = new(big.Rat).Sub(rows[i][j], product)
			}
		}
	}
	var l [][]api.Ratio
	for w := range want {
		var solution []api.Ratio
		for i := range n {
			solution = append(solution, ratioOf(rows[i][n+w]))
		}
		l = append(l, solution)
	}
	return det, l
}

// units returns the rows of the identity.
func units(n int) [][]int { return diagonal(slices.Repeat([]int{1}, n)...).Gain }

// determinant returns the Det of a valid bank.
func determinant(t *testing.T, b api.Bank) int {
	t.Helper()
	det, e := heat.Det(b)
	if e != api.OK {
		t.Fatalf("%s: error %d", call("Det", b), e)
	}
	return det
}

// expect reports a call whose result or error are not the wanted ones.
func expect[T comparable](t *testing.T, call string, got T, e api.Errno, want T, err api.Errno) {
	t.Helper()
	if got != want || e != err {
		t.Errorf("%s = %v, %d; want %v, %d", call, got, e, want, err)
	}
}

// expectList reports a call whose list or error are not the wanted ones.
func expectList[T comparable](t *testing.T, call string, l []T, e api.Errno, want []T, err api.Errno) {
	t.Helper()
	if !slices.Equal(l, want) || e != err {
		t.Errorf("%s = %v, %d; want %v, %d", call, l, e, want, err)
	}
}

// expectRows reports a call whose rows or error are not the wanted ones.
func expectRows(t *testing.T, call string, l [][]api.Ratio, e api.Errno, want [][]api.Ratio, err api.Errno) {
	t.Helper()
	if !slices.EqualFunc(l, want, slices.Equal[[]api.Ratio]) || e != err {
		t.Errorf("%s = %v, %d; want %v, %d", call, l, e, want, err)
	}
}

// call returns the text of a call with these arguments.
func call(name string, arguments ...any) string {
	text := name + "(" + fmt.Sprint(arguments...) + ")"
	if len(text) > 300 {
		return text[:300] + strings.Repeat(".", 3)
	}
	return text
}
