package amp_test

import (
	"testing"

	"photonmesh/amp"
	"photonmesh/api"
)

// maybe is a number, unless a step on the way to it had an error.
type maybe struct {
	z  api.Num
	ok bool
}

// got makes a maybe of what a call returns.
func got(z api.Num, e api.Errno) maybe {
	return maybe{z, e == api.OK}
}

// then applies a function of one number.
func (x maybe) then(f func(api.Num) (api.Num, api.Errno)) maybe {
	if !x.ok {
		return maybe{}
	}
	return got(f(x.z))
}

// with applies a function of two numbers.
func (x maybe) with(f func(x, y api.Num) (api.Num, api.Errno), y maybe) maybe {
	if !x.ok || !y.ok {
		return maybe{}
	}
	return got(f(x.z, y.z))
}

// same reports sides of a law that differ; a side with an error is not held against the other.
func same(t *testing.T, law string, x, y maybe, of ...api.Num) {
	t.Helper()
	if x.ok && y.ok && x.z != y.z {
		t.Errorf("%s: %v and %v for %v", law, x.z, y.z, of)
	}
}

// plain are small numbers whose sums and products are in range.
func plain() []api.Num {
	var l []api.Num
	for _, z := range spread(400) {
		text, _ := amp.Format(z)
		if z.K < 9 && len(text) < 14 {
			l = append(l, z)
		}
	}
	return append(l, zero, one, w, root, num(1, 1, 0, 0, 0), num(1, 0, 0, 0, 2), num(1, 0, -2, 0, 2))
}

// P1.9
func TestArithmeticOfPairs(t *testing.T) {
	l := samples(60)
	count := 0
	for _, a := range l {
		for _, b := range l {
			x, y := maybe{a, true}, maybe{b, true}
			sum, product := x.with(amp.Add, y), x.with(amp.Mul, y)
			if sum != y.with(amp.Add, x) {
				t.Errorf("Add depends on the order of %v and %v", a, b)
			}
			if product != y.with(amp.Mul, x) {
				t.Errorf("Mul depends on the order of %v and %v", a, b)
			}
			same(t, "Sub undoes Add", sum.with(amp.Sub, y), x, a, b)
			same(t, "Conj of a product", product.then(amp.Conj), x.then(amp.Conj).with(amp.Mul, y.then(amp.Conj)), a, b)
			same(t, "Flip of a product", product.then(amp.Flip), x.then(amp.Flip).with(amp.Mul, y.then(amp.Flip)), a, b)
			same(t, "Power of a product", product.then(amp.Power), x.then(amp.Power).with(amp.Mul, y.then(amp.Power)), a, b)
			if sum.ok && product.ok && product.then(amp.Power).ok {
				count++
			}
		}
	}
	if count < 100 {
		t.Errorf("only %d pairs without errors", count)
	}
}

// P1.9
func TestMulIsDistributive(t *testing.T) {
	l := plain()
	l = l[max(0, len(l)-30):]
	count := 0
	for _, a := range l {
		for _, b := range l {
			for _, c := range l {
				x, y, z := maybe{a, true}, maybe{b, true}, maybe{c, true}
				left := x.with(amp.Mul, y.with(amp.Add, z))
				same(t, "distributive", left, x.with(amp.Mul, y).with(amp.Add, x.with(amp.Mul, z)), a, b, c)
				same(t, "associative", x.with(amp.Mul, y).with(amp.Mul, z), x.with(amp.Mul, y.with(amp.Mul, z)), a, b, c)
				if left.ok {
					count++
				}
			}
		}
	}
	if count < 1000 {
		t.Errorf("only %d triples without errors", count)
	}
}

// P1.9
func TestChangesUndoThemselves(t *testing.T) {
	for _, a := range samples(300) {
		x := maybe{a, true}
		if x.then(amp.Neg).then(amp.Neg) != x || x.then(amp.Conj).then(amp.Conj) != x || x.then(amp.Flip).then(amp.Flip) != x {
			t.Errorf("Neg, Conj or Flip of %v does not undo itself", a)
		}
		turn := func(n int) maybe {
			return got(amp.Turn(a, n))
		}
		if turn(8) != x || turn(0) != x || turn(4) != x.then(amp.Neg) {
			t.Errorf("Turn of %v by 0, 4 or 8", a)
		}
		if turn(1) != x.with(amp.Mul, maybe{w, true}) || turn(-3) != turn(5) {
			t.Errorf("Turn of %v by 1 or -3", a)
		}
	}
}

// P1.10
func TestPowers(t *testing.T) {
	count := 0
	for _, z := range append(samples(300), plain()...) {
		p, e := amp.Power(z)
		if e != api.OK {
			continue
		}
		count++
		sign, e := amp.Sign(p)
		if e != api.OK || sign < 0 || (sign == 0) != (z == zero) {
			t.Errorf("Power of %v: %v with the sign %d, %d", z, p, sign, e)
		}
		f, e := amp.Flip(p)
		if e != api.OK {
			t.Errorf("Flip(%v): %d", p, e)
		}
		if sign, e := amp.Sign(f); e != api.OK || sign < 0 {
			t.Errorf("Flip of the Power of %v: %v with the sign %d, %d", z, f, sign, e)
		}
	}
	if count < 50 {
		t.Errorf("only %d powers", count)
	}
}

// P1.11
func TestCmpIsAnOrder(t *testing.T) {
	l := reals(40)
	cmp := func(x, y api.Num) int {
		n, e := amp.Cmp(x, y)
		if e != api.OK {
			t.Fatalf("Cmp(%v, %v): %d", x, y, e)
		}
		return n
	}
	for _, x := range l {
		for _, y := range l {
			if cmp(x, y) != -cmp(y, x) || (cmp(x, y) == 0) != (x == y) {
				t.Errorf("Cmp of %v and %v: %d and %d", x, y, cmp(x, y), cmp(y, x))
			}
			for _, z := range l {
				if cmp(x, y) <= 0 && cmp(y, z) <= 0 && cmp(x, z) > 0 {
					t.Errorf("Cmp of %v, %v and %v is no order", x, y, z)
				}
				a, e := amp.Add(x, z)
				b, f := amp.Add(y, z)
				if e == api.OK && f == api.OK && cmp(a, b) != cmp(x, y) {
					t.Errorf("adding %v changes Cmp of %v and %v", z, x, y)
				}
			}
		}
	}
}

// isWhole reports whether the real number z times 2^bits is whole.
func isWhole(z api.Num, bits int) bool {
	// z is (p + q r) / 2^half.
	p, q, half := z.A[0], z.A[1], z.K/2
	if z.K%2 == 1 {
		p, q, half = 2*q, p, half+1
	}
	return q == 0 && (p<<bits)%(1<<half) == 0
}

// P1.12
func TestBoundsOfOneBitMore(t *testing.T) {
	for _, z := range samples(150) {
		var before [2]api.Span
		for bits := 0; bits <= 30; bits++ {
			re, im, e := amp.Bounds(z, bits)
			if e != api.OK {
				t.Fatalf("Bounds(%v, %d): %d", z, bits, e)
			}
			for i, s := range [2]api.Span{re, im} {
				if s.Lo > s.Hi || s.Hi > s.Lo+1 {
					t.Errorf("Bounds(%v, %d): %v", z, bits, s)
				}
				if b := before[i]; bits > 0 && (s.Lo < 2*b.Lo || s.Hi > 2*b.Hi) {
					t.Errorf("Bounds(%v, %d): %v behind %v", z, bits, s, b)
				}
			}
			before = [2]api.Span{re, im}
		}
	}
}

// P1.12
func TestBoundsOfWholeParts(t *testing.T) {
	for _, z := range reals(200) {
		for bits := 0; bits <= 30; bits += 3 {
			re, _, e := amp.Bounds(z, bits)
			if e != api.OK || (re.Lo == re.Hi) != isWhole(z, bits) {
				t.Errorf("Bounds(%v, %d) = %v, %d", z, bits, re, e)
			}
			i, _ := amp.Turn(z, 2)
			re, im, e := amp.Bounds(i, bits)
			if e != api.OK || re != (api.Span{}) || (im.Lo == im.Hi) != isWhole(z, bits) {
				t.Errorf("Bounds(%v, %d) = %v, %v, %d", i, bits, re, im, e)
			}
		}
	}
}
