package synth_test

import (
	"math"
	"testing"

	"photonmesh/amp"
	"photonmesh/api"
	"photonmesh/matrix"
	"photonmesh/synth"
)

// numbersAround are guides and phases in range and out of it.
var numbersAround = []int{math.MinInt, -8, -1, 0, 1, 2, 3, 4, 5, 6, 7, 8, 9, 16, math.MaxInt}

// P4.4
func TestSwitch(t *testing.T) {
	for _, at := range numbersAround {
		for _, n := range numbersAround {
			l, e := synth.Switch(at, n)
			switch {
			case at < 1 || at > 5 || n < 0 || n > 7:
				expectList(t, call("Switch", at, n), l, e, nil, api.ErrArg)
			case n == 0:
				expectList(t, call("Switch", at, n), l, e, []api.Item{couple(at), couple(at)}, api.OK)
			default:
				expectList(t, call("Switch", at, n), l, e, []api.Item{couple(at), phase(at, n), couple(at)}, api.OK)
			}
		}
	}
}

// P4.4, P4.9
func TestBar(t *testing.T) {
	for n, text := range []string{"0", "-1+w-w3/3", "1/2", "1+w-w3/3", "1", "1+w-w3/3", "1/2", "-1+w-w3/3"} {
		want := num(t, text)
		if z, e := synth.Bar(n); z != want || e != api.OK {
			t.Errorf("Bar(%d) = %v, %d; want %s", n, z, e, text)
		}
		for at := 1; at <= 5; at++ {
			l, _ := synth.Switch(at, n)
			m := matrixOf(t, 6, l)
			if is, e := matrix.Unitary(m); !is || e != api.OK {
				t.Errorf("the switch %v is not unitary", l)
			}
			powers, _ := matrix.Powers(m)
			row := powers.E[(at-1)*6 : at*6]
			if total, e := amp.Sum(row); row[at-1] != want || total != one || e != api.OK {
				t.Errorf("the powers of the switch %v are %v; want %s first", l, row, text)
			}
		}
	}
	for _, n := range []int{-1, 8, -8, math.MaxInt, math.MinInt} {
		if z, e := synth.Bar(n); z != (api.Num{}) || e != api.ErrArg {
			t.Errorf("Bar(%d) = %v, %d", n, z, e)
		}
	}
}

// P4.1, P4.4
func TestNearestErrors(t *testing.T) {
	for _, z := range invalidNums {
		if n, e := synth.Nearest(z); n != 0 || e != api.ErrNum {
			t.Errorf("Nearest(%v) = %d, %d", z, n, e)
		}
	}
	for _, text := range []string{"w", "w2", "w3", "-w2", "2+w2/3", "w+w3", "w+w2/1", "1000000000w2", "1+w/40", "5+w+w2-w3"} {
		if n, e := synth.Nearest(num(t, text)); n != 0 || e != api.ErrReal {
			t.Errorf("Nearest(%s) = %d, %d", text, n, e)
		}
	}
}

// P4.4
func TestNearest(t *testing.T) {
	for text, want := range map[string]int{
		"0": 0, "-1": 0, "1/2": 2, "1": 4, "1/4": 1, "3/4": 3, "2": 4, "1000000000": 4, "-1000000000": 0, "-1+w-w3/3": 1, "1+w-w3/3": 3, "1/40": 0, "-1/40": 0,
		"1000000000w-1000000000w3": 4, "-1000000000w+1000000000w3": 0, "1000000000-1000000000w+1000000000w3": 0, "-1000000000+1000000000w-1000000000w3": 4,
		"999999999+1000000000w-1000000000w3/40": 4, "999999999-1000000000w+1000000000w3/40": 0, "1048575/40": 4, "524287/40": 2,
		"1/1": 3, "3/3": 4, "1/3": 2, "1/5": 1, "1/6": 1, "1/7": 1, "1/8": 0, "5/4": 4,
	} {
		if n, e := synth.Nearest(num(t, text)); n != want || e != api.OK {
			t.Errorf("Nearest(%s) = %d, %d; want %d", text, n, e, want)
		}
	}
	for n := range 5 {
		z, _ := synth.Bar(n)
		if got, e := synth.Nearest(z); got != n || e != api.OK {
			t.Errorf("Nearest of Bar(%d) = %d, %d", n, got, e)
		}
	}
}

// P4.4: of two that are equally near, the lesser one counts.
func TestNearestTies(t *testing.T) {
	for n, text := range []string{"-1+w-w3/5", "-1+2w-2w3/5", "1+2w-2w3/5", "1+3w-3w3/5"} {
		middle := num(t, text)
		low, _ := synth.Bar(n)
		high, _ := synth.Bar(n + 1)
		below, _ := amp.Sub(middle, low)
		above, _ := amp.Sub(high, middle)
		if below != above {
			t.Fatalf("%s is not half way", text)
		}
		if got, e := synth.Nearest(middle); got != n || e != api.OK {
			t.Errorf("Nearest(%s) = %d, %d; want %d", text, got, e, n)
		}
		for _, bit := range []api.Num{{A: [4]int{1}, K: 40}, {A: [4]int{1}, K: 38}, {A: [4]int{99, -70, 0, 70}, K: 40}} {
			more, _ := amp.Add(middle, bit)
			less, _ := amp.Sub(middle, bit)
			if got, e := synth.Nearest(more); got != n+1 || e != api.OK {
				t.Errorf("Nearest of %s and a bit = %d, %d; want %d", text, got, e, n+1)
			}
			if got, e := synth.Nearest(less); got != n || e != api.OK {
				t.Errorf("Nearest of a bit less than %s = %d, %d; want %d", text, got, e, n)
			}
		}
	}
}

// P4.4: the distances are compared, where they can be formed.
func TestNearestDistances(t *testing.T) {
	r := random(3)
	for range 3000 {
		a, b := r.Intn(2001)-1000, r.Intn(2001)-1000
		power, e := amp.Make([4]int{a, b, 0, -b}, r.Intn(24))
		if e != api.OK {
			t.Fatalf("Make: error %d", e)
		}
		want := 0
		var least api.Num
		for n := range 5 {
			bar, _ := synth.Bar(n)
			off, _ := amp.Sub(power, bar)
			if sign, _ := amp.Sign(off); sign < 0 {
				off, _ = amp.Neg(off)
			}
			if order, _ := amp.Cmp(off, least); n == 0 || order < 0 {
				want, least = n, off
			}
		}
		if n, e := synth.Nearest(power); n != want || e != api.OK {
			t.Errorf("Nearest(%v) = %d, %d; want %d", power, n, e, want)
		}
	}
}

// P4.4
func TestDiagonal(t *testing.T) {
	for _, c := range []struct {
		turns []int
		text  string
	}{
		{[]int{0}, ""}, {[]int{7}, "p1 7"}, {[]int{0, 0, 0, 0, 0, 0}, ""}, {[]int{1, 2, 3, 4, 5, 6}, "p1 1; p2 2; p3 3; p4 4; p5 5; p6 6"}, {[]int{0, 4, 0, 7}, "p2 4; p4 7"}, {[]int{5, 0, 0}, "p1 5"},
	} {
		l, e := synth.Diagonal(c.turns)
		expectList(t, call("Diagonal", c.turns), l, e, items(t, c.text), api.OK)
	}
	for _, turns := range [][]int{nil, {}, {-1}, {8}, {0, 8}, {-1, 0}, {0, 0, 0, 0, 0, 9}, {0, 0, 0, 0, 0, 0, 0}, {1, 1, 1, 1, 1, 1, 1}, {math.MaxInt}, {1, math.MinInt}, make([]int, 1000)} {
		l, e := synth.Diagonal(turns)
		expectList(t, call("Diagonal", turns), l, e, nil, api.ErrArg)
	}
	r := random(4)
	for range 100 {
		turns := make([]int, 1+r.Intn(6))
		for i := range turns {
			turns[i] = r.Intn(8)
		}
		l, e := synth.Diagonal(turns)
		if e != api.OK {
			t.Fatalf("Diagonal(%v): error %d", turns, e)
		}
		perm, got, ok, e := matrix.Monomial(matrixOf(t, len(turns), l))
		expectList(t, call("Monomial of Diagonal", turns), got, e, turns, api.OK)
		expectList(t, call("Monomial of Diagonal", turns), perm, e, counted(len(turns)), api.OK)
		if !ok {
			t.Errorf("Diagonal(%v) = %v is not monomial", turns, l)
		}
	}
}
