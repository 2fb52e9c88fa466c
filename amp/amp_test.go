package amp_test

import (
	"fmt"
	"math"
	"slices"
	"testing"

	"photonmesh/amp"
	"photonmesh/api"
)

// unary are the functions of one number that return a number.
var unary = map[string]func(api.Num) (api.Num, api.Errno){
	"Neg": amp.Neg, "Conj": amp.Conj, "Flip": amp.Flip, "Power": amp.Power,
	"Turn":  func(z api.Num) (api.Num, api.Errno) { return amp.Turn(z, 3) },
	"Halve": func(z api.Num) (api.Num, api.Errno) { return amp.Halve(z, 3) },
	"Halve with a bad n": func(z api.Num) (api.Num, api.Errno) {
		return amp.Halve(z, 101)
	},
	"Sum": func(z api.Num) (api.Num, api.Errno) { return amp.Sum([]api.Num{one, z}) },
	"Sum beyond the limit": func(z api.Num) (api.Num, api.Errno) {
		return amp.Sum([]api.Num{num(1000000000, 0, 0, 0, 0), one, z})
	},
}

// binary are the functions of two numbers that return a number.
var binary = map[string]func(x, y api.Num) (api.Num, api.Errno){"Add": amp.Add, "Sub": amp.Sub, "Mul": amp.Mul}

// P1.1
func TestInvalidNumbersComeFirst(t *testing.T) {
	for _, z := range invalid {
		for name, f := range unary {
			got, e := f(z)
			expect(t, fmt.Sprint(name, z), got, e, zero, api.ErrNum)
		}
		for name, f := range binary {
			got, e := f(z, one)
			expect(t, fmt.Sprint(name, z, one), got, e, zero, api.ErrNum)
			got, e = f(one, z)
			expect(t, fmt.Sprint(name, one, z), got, e, zero, api.ErrNum)
		}
		if is, e := amp.Real(z); is || e != api.ErrNum {
			t.Errorf("Real(%v) = %v, %d", z, is, e)
		}
		if n, e := amp.Sign(z); n != 0 || e != api.ErrNum {
			t.Errorf("Sign(%v) = %d, %d", z, n, e)
		}
		for _, y := range []api.Num{one, w} {
			if n, e := amp.Cmp(z, y); n != 0 || e != api.ErrNum {
				t.Errorf("Cmp(%v, %v) = %d, %d", z, y, n, e)
			}
			if n, e := amp.Cmp(y, z); n != 0 || e != api.ErrNum {
				t.Errorf("Cmp(%v, %v) = %d, %d", y, z, n, e)
			}
		}
		for _, bits := range []int{0, -1, 31} {
			if re, im, e := amp.Bounds(z, bits); re != (api.Span{}) || im != (api.Span{}) || e != api.ErrNum {
				t.Errorf("Bounds(%v, %d) = %v, %v, %d", z, bits, re, im, e)
			}
		}
		if s, e := amp.Format(z); s != "" || e != api.ErrNum {
			t.Errorf("Format(%v) = %q, %d", z, s, e)
		}
	}
}

// P1.1: ErrArg in front of ErrLimit
func TestLimitComesLast(t *testing.T) {
	got, e := amp.Halve(num(1, 0, 0, 0, 40), 101)
	expect(t, "Halve", got, e, zero, api.ErrArg)
	got, e = amp.Make([4]int{1 << 59, 1<<60 + 1}, 0)
	expect(t, "Make", got, e, zero, api.ErrArg)
	got, e = amp.Make([4]int{1 << 59}, 1001)
	expect(t, "Make", got, e, zero, api.ErrArg)
}

// P1.2
func TestValid(t *testing.T) {
	for _, z := range invalid {
		if amp.Valid(z) {
			t.Errorf("Valid(%v)", z)
		}
	}
	for _, z := range edges {
		if !amp.Valid(z) {
			t.Errorf("not Valid(%v)", z)
		}
	}
	for k := 0; k <= 40; k++ {
		for _, z := range []api.Num{num(1, 0, 0, 0, k), num(0, 1, 0, 0, k), num(0, 0, 1, 0, k), num(0, 0, 0, 1, k), num(-1, 1, 2, -1, k)} {
			if !amp.Valid(z) {
				t.Errorf("not Valid(%v)", z)
			}
		}
		for _, z := range []api.Num{num(0, 0, 0, 0, k), num(1, 1, 1, 1, k), num(-1, 0, 1, 2, k)} {
			if amp.Valid(z) != (k == 0) {
				t.Errorf("Valid(%v) = %v", z, k != 0)
			}
		}
	}
}

// P1.2
func TestMake(t *testing.T) {
	const top = 1 << 60
	for _, c := range []struct {
		a    [4]int
		k    int
		want api.Num
		err  api.Errno
	}{
		{[4]int{1, 0, 1, 0}, 1, w, api.OK},
		{[4]int{1, 0, -1, 0}, 2, num(0, 0, 0, -1, 1), api.OK},
		{[4]int{1, 0, 1, 0}, 0, num(1, 0, 1, 0, 0), api.OK},
		{[4]int{}, 1000, zero, api.OK},
		{[4]int{top, 0, 0, 0}, 120, one, api.OK},
		{[4]int{top, -top, top, -top}, 118, num(2, -2, 2, -2, 0), api.OK},
		{[4]int{0, -top, 0, top}, 160, num(-1, 0, 0, 0, 39), api.OK},
		{[4]int{top, 0, 0, 0}, 160, num(1, 0, 0, 0, 40), api.OK},
		{[4]int{top, 0, 0, 0}, 161, zero, api.ErrLimit},
		{[4]int{top, top, top, top}, 1000, zero, api.ErrLimit},
		{[4]int{1, 0, 0, 0}, 40, num(1, 0, 0, 0, 40), api.OK},
		{[4]int{1, 0, 0, 0}, 41, zero, api.ErrLimit},
		{[4]int{-1000000000, 0, 0, 0}, 0, num(-1000000000, 0, 0, 0, 0), api.OK},
		{[4]int{0, 1000000001, 0, 0}, 0, zero, api.ErrLimit},
		{[4]int{0, 0, -1000000001, 0}, 5, zero, api.ErrLimit},
		{[4]int{0, 0, 0, 2000000000}, 2, num(0, 0, 0, 1000000000, 0), api.OK},
		{[4]int{0, 0, 0, 2000000002}, 2, zero, api.ErrLimit},
		{[4]int{1, 0, 0, 0}, -1, zero, api.ErrArg},
		{[4]int{0, 0, 0, 0}, 1001, zero, api.ErrArg},
		{[4]int{0, 0, 0, 0}, math.MinInt, zero, api.ErrArg},
		{[4]int{top + 1, 0, 0, 0}, 120, zero, api.ErrArg},
		{[4]int{0, -top - 1, 0, 0}, 120, zero, api.ErrArg},
		{[4]int{0, 0, math.MaxInt, 0}, 120, zero, api.ErrArg},
		{[4]int{0, 0, 0, math.MinInt}, 120, zero, api.ErrArg},
	} {
		z, e := amp.Make(c.a, c.k)
		expect(t, fmt.Sprint("Make", c.a, c.k), z, e, c.want, c.err)
	}
	for _, z := range samples(200) {
		for k := 0; k <= 60; k += 7 {
			x := widen(z)
			x.k = k
			want, err := x.form()
			got, e := amp.Make(z.A, k)
			expect(t, fmt.Sprint("Make", z.A, k), got, e, want, err)
		}
	}
}

// P1.3
func TestAddSubMul(t *testing.T) {
	l := samples(60)
	for _, x := range l {
		for _, y := range l {
			want, err := widen(x).plus(widen(y), 1).form()
			got, e := amp.Add(x, y)
			expect(t, fmt.Sprint("Add", x, y), got, e, want, err)
			want, err = widen(x).plus(widen(y), -1).form()
			got, e = amp.Sub(x, y)
			expect(t, fmt.Sprint("Sub", x, y), got, e, want, err)
			want, err = widen(x).times(widen(y)).form()
			got, e = amp.Mul(x, y)
			expect(t, fmt.Sprint("Mul", x, y), got, e, want, err)
		}
	}
}

// P1.3: at the limits
func TestArithmeticLimits(t *testing.T) {
	big := num(1000000000, 0, 0, 0, 0)
	small := num(1, 0, 0, 0, 40)
	for _, c := range []struct {
		name string
		x, y api.Num
		want api.Num
		err  api.Errno
	}{
		{"Add", num(999999999, 0, 0, 0, 0), one, big, api.OK}, {"Add", big, one, zero, api.ErrLimit}, {"Add", big, small, zero, api.ErrLimit},
		{"Sub", num(-1000000000, 0, 0, 0, 0), one, zero, api.ErrLimit}, {"Sub", big, big, zero, api.OK}, {"Sub", small, small, zero, api.OK},
		{"Mul", big, num(2, 0, 0, 0, 0), zero, api.ErrLimit}, {"Mul", small, num(1, 0, 0, 0, 1), zero, api.ErrLimit}, {"Mul", small, zero, zero, api.OK},
		{"Mul", num(1<<29, 0, 0, 0, 0), small, num(1<<9, 0, 0, 0, 0), api.OK}, {"Mul", big, num(0, 0, 0, 1, 0), num(0, 0, 0, 1000000000, 0), api.OK},
		{"Mul", num(1, 0, 0, 0, 20), num(1, 0, 0, 0, 20), small, api.OK},
	} {
		got, e := binary[c.name](c.x, c.y)
		expect(t, fmt.Sprint(c.name, c.x, c.y), got, e, c.want, c.err)
	}
}

// P1.3
func TestSum(t *testing.T) {
	big := num(1000000000, 0, 0, 0, 0)
	less := num(-1, 0, 0, 0, 0)
	many := make([]api.Num, 1001)
	for i := range many {
		many[i] = one
	}
	broken := slices.Clone(many)
	broken[1000] = invalid[0]
	for _, c := range []struct {
		l    []api.Num
		want api.Num
		err  api.Errno
	}{
		{nil, zero, api.OK}, {[]api.Num{}, zero, api.OK}, {[]api.Num{w}, w, api.OK},
		{[]api.Num{num(1, 0, 0, 0, 1), num(1, 0, 0, 0, 1), one}, num(1, 1, 0, -1, 0), api.OK},
		{[]api.Num{big, less, one}, big, api.OK}, {[]api.Num{big, one, less}, zero, api.ErrLimit}, {[]api.Num{less, big, one}, big, api.OK},
		{[]api.Num{big, one, less, invalid[1]}, zero, api.ErrNum},
		{many[:1000], num(1000, 0, 0, 0, 0), api.OK}, {many, zero, api.ErrArg}, {broken, zero, api.ErrArg},
	} {
		before := slices.Clone(c.l)
		got, e := amp.Sum(c.l)
		expect(t, fmt.Sprintf("Sum of %d", len(c.l)), got, e, c.want, c.err)
		if !slices.Equal(before, c.l) {
			t.Errorf("Sum changed its list")
		}
	}
}

// P1.4
func TestNegConjFlip(t *testing.T) {
	for _, c := range []struct {
		name    string
		z, want api.Num
	}{
		{"Neg", num(1, -2, 3, -4, 0), num(-1, 2, -3, 4, 0)}, {"Neg", num(1, -2, 3, -5, 7), num(-1, 2, -3, 5, 7)}, {"Neg", zero, zero},
		{"Conj", w, num(0, 0, 0, -1, 0)}, {"Conj", num(1, 2, 3, 5, 4), num(1, -5, -3, -2, 4)}, {"Conj", root, root},
		{"Flip", w, num(0, -1, 0, 0, 0)}, {"Flip", root, num(0, -1, 0, 1, 0)}, {"Flip", num(0, 0, 1, 0, 0), num(0, 0, 1, 0, 0)},
		{"Flip", num(1, 2, 3, 5, 4), num(1, -2, 3, -5, 4)}, {"Flip", num(1, 2, 3, 5, 5), num(-1, 2, -3, 5, 5)}, {"Flip", num(1, 0, 0, 0, 1), num(-1, 0, 0, 0, 1)},
		{"Flip", num(2, 1, 0, -1, 0), num(2, -1, 0, 1, 0)},
	} {
		got, e := unary[c.name](c.z)
		expect(t, fmt.Sprint(c.name, c.z), got, e, c.want, api.OK)
	}
	for _, z := range samples(300) {
		got, e := amp.Neg(z)
		expect(t, fmt.Sprint("Neg", z), got, e, api.Num{A: [4]int{-z.A[0], -z.A[1], -z.A[2], -z.A[3]}, K: z.K}, api.OK)
	}
}

// P1.4
func TestTurn(t *testing.T) {
	z := num(1, 2, 3, 5, 3)
	for n, want := range []api.Num{z, num(-5, 1, 2, 3, 3), num(-3, -5, 1, 2, 3), num(-2, -3, -5, 1, 3), num(-1, -2, -3, -5, 3), num(5, -1, -2, -3, 3), num(3, 5, -1, -2, 3), num(2, 3, 5, -1, 3)} {
		for _, m := range []int{n, n + 8, n - 8, n - 800000, n + math.MinInt, n + math.MaxInt - 7} {
			got, e := amp.Turn(z, m)
			expect(t, fmt.Sprint("Turn", z, m), got, e, want, api.OK)
		}
	}
}

// P1.4
func TestHalve(t *testing.T) {
	for _, c := range []struct {
		z    api.Num
		n    int
		want api.Num
		err  api.Errno
	}{
		{one, 0, one, api.OK}, {one, 1, num(1, 0, 0, 0, 1), api.OK}, {num(2, 0, 0, 0, 0), 1, root, api.OK}, {num(1, 0, 1, 0, 0), 1, w, api.OK},
		{num(1, 0, 0, 0, 3), 37, num(1, 0, 0, 0, 40), api.OK}, {num(1, 0, 0, 0, 3), 38, zero, api.ErrLimit}, {zero, 100, zero, api.OK},
		{num(1<<29, 0, 0, 0, 0), 98, num(1, 0, 0, 0, 40), api.OK}, {num(1<<29, 0, 0, 0, 0), 99, zero, api.ErrLimit}, {one, 100, zero, api.ErrLimit},
		{one, -1, zero, api.ErrArg}, {one, 101, zero, api.ErrArg}, {one, math.MaxInt, zero, api.ErrArg}, {one, math.MinInt, zero, api.ErrArg},
	} {
		got, e := amp.Halve(c.z, c.n)
		expect(t, fmt.Sprint("Halve", c.z, c.n), got, e, c.want, c.err)
	}
}

// P1.5
func TestPower(t *testing.T) {
	for _, c := range []struct {
		z, want api.Num
		err     api.Errno
	}{
		{zero, zero, api.OK}, {w, one, api.OK}, {num(1, 1, 0, 0, 0), num(2, 1, 0, -1, 0), api.OK}, {num(3, 0, 4, 0, 0), num(25, 0, 0, 0, 0), api.OK},
		{num(1, 0, 0, 0, 20), num(1, 0, 0, 0, 40), api.OK}, {num(1, 0, 0, 0, 21), zero, api.ErrLimit}, {num(31622, 0, 0, 0, 0), num(999950884, 0, 0, 0, 0), api.OK},
		{num(31623, 0, 0, 0, 0), zero, api.ErrLimit}, {num(1000000000, 1000000000, 1000000000, -1000000000, 0), zero, api.ErrLimit},
	} {
		got, e := amp.Power(c.z)
		expect(t, fmt.Sprint("Power", c.z), got, e, c.want, c.err)
	}
	for _, z := range samples(300) {
		c, _ := amp.Conj(z)
		want, err := widen(z).times(widen(c)).form()
		got, e := amp.Power(z)
		expect(t, fmt.Sprint("Power", z), got, e, want, err)
	}
}
