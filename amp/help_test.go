package amp_test

import (
	"math"
	"math/big"
	"testing"

	"photonmesh/amp"
	"photonmesh/api"
)

// num returns the struct with these fields, valid or not.
func num(a, b, c, d, k int) api.Num {
	return api.Num{A: [4]int{a, b, c, d}, K: k}
}

var (
	zero = api.Num{}
	one  = num(1, 0, 0, 0, 0)
	w    = num(0, 1, 0, 0, 0)
	root = num(0, 1, 0, -1, 0)
)

// invalid are no numbers, for each reason why.
var invalid = []api.Num{
	num(1000000001, 0, 0, 0, 0), num(0, -1000000001, 0, 0, 0), num(0, 0, 1000000001, 0, 0), num(0, 0, 0, -1000000001, 0),
	num(math.MinInt, 0, 0, 0, 0), num(0, 0, math.MaxInt, 0, 1), num(math.MaxInt, 0, 1, 0, 2),
	num(1, 0, 0, 0, -1), num(1, 0, 0, 0, 41), num(1, 0, 0, 0, math.MinInt), num(1, 0, 0, 0, math.MaxInt),
	num(0, 0, 0, 0, 1), num(0, 0, 0, 0, -1), num(1, 0, 1, 0, 1), num(1, 0, -1, 0, 2), num(2, 0, 0, 0, 1), num(1, 1, 1, 1, 40), num(0, 3, 0, -1, 7),
}

// edges are numbers at the limits, and those that the document names.
var edges = []api.Num{
	zero, one, w, root, num(-1, 0, 0, 0, 0), num(0, 0, 1, 0, 0), num(0, 0, 0, 1, 0), num(1, 1, 0, 0, 0), num(2, 1, 0, -1, 0), num(2, -1, 0, 1, 0),
	num(1, 0, 0, 0, 1), num(0, 0, 0, -1, 1), num(1, 0, 0, 0, 2), num(0, 0, 1, 0, 3), num(-7, 5, 0, -5, 3), num(1, 0, -2, 0, 2),
	num(1, 0, 0, 0, 40), num(-1, 2, 0, 1, 40), num(1000000000, 0, 0, 0, 0), num(-1000000000, 1000000000, -1000000000, 1000000000, 0),
	num(1000000000, 999999999, -1000000000, 1000000000, 39), num(999999999, 1000000000, 1000000000, -1000000000, 40), num(1<<29, 0, 0, 0, 0), num(0, 1<<29, 0, 1<<28, 0),
}

// spread returns n numbers whose sizes and exponents differ widely, the same ones each time.
func spread(n int) []api.Num {
	state := uint64(12345)
	next := func(below int) int {
		state = state*6364136223846793005 + 1442695040888963407
		return int(state>>33) % below
	}
	var l []api.Num
	for len(l) < n {
		size := []int{2, 4, 30, 2000, 1000000, 1000000001}[next(6)]
		var a [4]int
		for i := range a {
			if next(4) != 0 {
				a[i] = next(2*size-1) - size + 1
			}
		}
		if z, e := amp.Make(a, next(41)); e == api.OK {
			l = append(l, z)
		}
	}
	return l
}

// samples returns the edges and n numbers of spread.
func samples(n int) []api.Num {
	return append(append([]api.Num{}, edges...), spread(n)...)
}

// reals returns real numbers: the edges that are, and those of the form p + q r, divided.
func reals(n int) []api.Num {
	var l []api.Num
	for _, z := range samples(n) {
		if x, e := amp.Make([4]int{z.A[0], z.A[1], 0, -z.A[1]}, z.K); e == api.OK {
			l = append(l, x)
		}
	}
	return l
}

// wide is a sum without limits, and the exponent of its divisor.
type wide struct {
	a [4]*big.Int
	k int
}

func widen(z api.Num) wide {
	var x wide
	for i := range x.a {
		x.a[i] = big.NewInt(int64(z.A[i]))
	}
	x.k = z.K
	return x
}

// times multiplies as polynomials of w, with w^4 = -1.
func (x wide) times(y wide) wide {
	z := widen(zero)
	for i := range x.a {
		for j := range y.a {
			p := new(big.Int).Mul(x.a[i], y.a[j])
			if i+j >= 4 {
				p.Neg(p)
			}
			z.a[(i+j)%4].Add(z.a[(i+j)%4], p)
		}
	}
	z.k = x.k + y.k
	return z
}

// raised returns the same number with the exponent k.
func (x wide) raised(k int) wide {
	for x.k < k {
		up := x.times(widen(root))
		up.k = x.k + 1
		x = up
	}
	return x
}

// plus returns x + sign * y.
func (x wide) plus(y wide, sign int64) wide {
	k := max(x.k, y.k)
	x, y = x.raised(k), y.raised(k)
	z := widen(zero)
	for i := range z.a {
		z.a[i].Add(x.a[i], new(big.Int).Mul(y.a[i], big.NewInt(sign)))
	}
	z.k = k
	return z
}

// form returns the valid number that x is, or ErrLimit.
func (x wide) form() (api.Num, api.Errno) {
	for x.k > 0 {
		down := x.times(widen(root))
		even := true
		for i := range down.a {
			even = even && down.a[i].Bit(0) == 0
			down.a[i].Quo(down.a[i], big.NewInt(2))
		}
		if !even {
			break
		}
		down.k = x.k - 1
		x = down
	}
	var z api.Num
	for i, c := range x.a {
		if c.CmpAbs(big.NewInt(api.MaxCoef)) > 0 {
			return api.Num{}, api.ErrLimit
		}
		z.A[i] = int(c.Int64())
	}
	z.K = x.k
	if z.K > api.MaxExp {
		return api.Num{}, api.ErrLimit
	}
	return z, api.OK
}

// signOf returns the sign of p + q r by comparing squares.
func signOf(p, q *big.Int) int {
	if p.Sign()*q.Sign() >= 0 {
		return max(-1, min(1, p.Sign()+q.Sign()))
	}
	pp := new(big.Int).Mul(p, p)
	qq := new(big.Int).Mul(q, q)
	return pp.Cmp(qq.Lsh(qq, 1)) * p.Sign()
}

// expect reports a call whose number or error is not the wanted one.
func expect(t *testing.T, call string, z api.Num, e api.Errno, want api.Num, err api.Errno) {
	t.Helper()
	if z != want || e != err {
		t.Errorf("%s = %v, %d; want %v, %d", call, z, e, want, err)
	}
}
