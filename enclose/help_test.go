package enclose_test

import (
	"fmt"
	"math"
	"math/big"
	"math/rand"
	"slices"
	"testing"

	"photonmesh/amp"
	"photonmesh/api"
	"photonmesh/enclose"
)

const (
	one = api.One
	top = api.MaxSpan
)

// span returns the span with these bounds, valid or not.
func span(lo, hi int) api.Span { return api.Span{Lo: lo, Hi: hi} }

// at returns the span that encloses one bound alone.
func at(n int) api.Span { return span(n, n) }

// axis returns a span as a rectangle.
func axis(s api.Span) api.Rect { return api.Rect{Re: s} }

// point returns the rectangle that encloses one complex number alone.
func point(re, im int) api.Rect { return api.Rect{Re: at(re), Im: at(im)} }

// port returns the two-port with these parts, row by row.
func port(a, b, c, d api.Rect) api.Port { return api.Port{S: [2][2]api.Rect{{a, b}, {c, d}}} }

// invalidSpans are no spans, for each reason why.
var invalidSpans = []api.Span{{Lo: 1}, {Lo: 0, Hi: -1}, {Lo: -5, Hi: -6}, {Lo: top, Hi: top - 1}, {Lo: -top - 1}, {Hi: top + 1}, {Lo: top + 1, Hi: top + 1}, {Lo: -top - 1, Hi: -top - 1},
	{Lo: math.MinInt}, {Hi: math.MaxInt}, {Lo: math.MinInt, Hi: math.MaxInt}, {Lo: math.MaxInt, Hi: math.MinInt}, {Lo: math.MinInt, Hi: math.MinInt}, {Lo: math.MaxInt, Hi: math.MaxInt}}

// bounds are those at which something changes: 2^35 is the root of the greatest bound, 2^15 that of 1.
var bounds = []int{0, 1, 2, 3, 1<<15 - 1, 1 << 15, 1<<15 + 1, one/2 - 1, one / 2, one - 1, one, one + 1, 3 * one, 1<<34 + 7, 1<<35 - 1, 1 << 35, 1<<35 + 1, 1 << 38, top/2 - 1, top / 2, top/2 + 1, top - 1, top}

// someSpans returns spans between all bounds that are near to each other, and others drawn at random.
func someSpans(seed int64, more int) []api.Span {
	var l []api.Span
	for i, lo := range bounds {
		l = append(l, at(lo), at(-lo), span(-lo, lo))
		if i > 0 {
			l = append(l, span(bounds[i-1], lo), span(-lo, -bounds[i-1]), span(-bounds[i-1], lo), span(-lo, bounds[i-1]))
		}
	}
	r := random(seed)
	for range more {
		l = append(l, anySpan(r, 41))
	}
	return l
}

// random returns the same numbers each time.
func random(seed int64) *rand.Rand { return rand.New(rand.NewSource(seed)) }

// anyBound returns a bound of any size less than 2^bits.
func anyBound(r *rand.Rand, bits int) int {
	n := r.Intn(1 << r.Intn(bits))
	if r.Intn(2) == 0 {
		return -n
	}
	return n
}

// anySpan returns a span with bounds less than 2^bits.
func anySpan(r *rand.Rand, bits int) api.Span {
	lo := anyBound(r, bits)
	hi := anyBound(r, bits)
	if r.Intn(3) == 0 {
		hi = lo + r.Intn(3)
	}
	return span(min(lo, hi), max(lo, min(hi, top)))
}

// anyRect returns a rectangle with bounds less than 2^bits.
func anyRect(r *rand.Rand, bits int) api.Rect {
	return api.Rect{Re: anySpan(r, bits), Im: anySpan(r, bits)}
}

// anyPort returns a two-port with bounds less than 2^bits.
func anyPort(r *rand.Rand, bits int) api.Port {
	return port(anyRect(r, bits), anyRect(r, bits), anyRect(r, bits), anyRect(r, bits))
}

// within returns a span inside of s.
func within(r *rand.Rand, s api.Span) api.Span {
	a := s.Lo + r.Intn(s.Hi-s.Lo+1)
	b := s.Lo + r.Intn(s.Hi-s.Lo+1)
	return span(min(a, b), max(a, b))
}

// rectWithin returns a rectangle inside of x.
func rectWithin(r *rand.Rand, x api.Rect) api.Rect {
	return api.Rect{Re: within(r, x.Re), Im: within(r, x.Im)}
}

// portWithin returns a two-port inside of p.
func portWithin(r *rand.Rand, p api.Port) api.Port {
	return port(rectWithin(r, p.S[0][0]), rectWithin(r, p.S[0][1]), rectWithin(r, p.S[1][0]), rectWithin(r, p.S[1][1]))
}

// holds reports whether y encloses all of x.
func holds(y, x api.Span) bool { return y.Lo <= x.Lo && x.Hi <= y.Hi }

// rectHolds reports whether y encloses all of x.
func rectHolds(y, x api.Rect) bool { return holds(y.Re, x.Re) && holds(y.Im, x.Im) }

// num returns the number with this text.
func num(t *testing.T, text string) api.Num {
	t.Helper()
	z, e := amp.Parse(text)
	if e != api.OK {
		t.Fatalf("%q is no number: %d", text, e)
	}
	return z
}

// anyNum returns a number whose coefficients are at most so great.
func anyNum(r *rand.Rand, most int) api.Num {
	for {
		c := func() int { return r.Intn(2*most+1) - most }
		z, e := amp.Make([4]int{c(), c(), c(), c()}, r.Intn(30))
		if e == api.OK {
			return z
		}
	}
}

// expect reports a call whose result or error are not the wanted ones.
func expect[T comparable](t *testing.T, call string, got T, e api.Errno, want T, err api.Errno) {
	t.Helper()
	if got != want || e != err {
		t.Errorf("%s = %v, %d; want %v, %d", call, got, e, want, err)
	}
}

// binary are the functions of two rectangles that return one.
var binary = map[string]func(x, y api.Rect) (api.Rect, api.Errno){"Add": enclose.Add, "Sub": enclose.Sub, "Mul": enclose.Mul, "Div": enclose.Div}

// What follows reads the terms of the chapter word by word, with fractions that
// may have any size. A reading that ends with an error panics with it.

// wide is a span with bounds of any size, in parts of One.
type wide struct{ lo, hi *big.Rat }

// wideRect is a rectangle of such spans.
type wideRect struct{ re, im wide }

func ratio(n, d int) *big.Rat { return big.NewRat(int64(n), int64(d)) }

// down returns q rounded down.
func down(q *big.Rat) *big.Rat {
	n := new(big.Int).Div(q.Num(), q.Denom()) // Euclidean, which is down for positive divisors
	return new(big.Rat).SetInt(n)
}

// up returns q rounded up.
func up(q *big.Rat) *big.Rat { return new(big.Rat).Neg(down(new(big.Rat).Neg(q))) }

// ranged returns the wide span of these bounds, or panics with ErrLimit.
func ranged(lo, hi *big.Rat) wide {
	if lo.Cmp(ratio(-top, 1)) < 0 || hi.Cmp(ratio(top, 1)) > 0 {
		panic(api.ErrLimit)
	}
	return wide{lo, hi}
}

func widen(s api.Span) wide { return wide{ratio(s.Lo, 1), ratio(s.Hi, 1)} }

func widenRect(x api.Rect) wideRect { return wideRect{widen(x.Re), widen(x.Im)} }

func (x wide) narrow() api.Span {
	return span(int(x.lo.Num().Int64()), int(x.hi.Num().Int64()))
}

func (x wideRect) narrow() api.Rect { return api.Rect{Re: x.re.narrow(), Im: x.im.narrow()} }

func sum(a, b *big.Rat) *big.Rat { return new(big.Rat).Add(a, b) }

func difference(a, b *big.Rat) *big.Rat { return new(big.Rat).Sub(a, b) }

// product returns a * b / One.
func product(a, b *big.Rat) *big.Rat {
	q := new(big.Rat).Mul(a, b)
	return q.Quo(q, ratio(one, 1))
}

// quotient returns a * One / b.
func quotient(a, b *big.Rat) *big.Rat {
	q := new(big.Rat).Mul(a, ratio(one, 1))
	return q.Quo(q, b)
}

// least returns the least and the greatest of some fractions, rounded down and up.
func least(l ...*big.Rat) wide {
	slices.SortFunc(l, (*big.Rat).Cmp)
	return ranged(down(l[0]), up(l[len(l)-1]))
}

func (x wide) plus(y wide) wide { return ranged(sum(x.lo, y.lo), sum(x.hi, y.hi)) }

func (x wide) minus(y wide) wide { return ranged(difference(x.lo, y.hi), difference(x.hi, y.lo)) }

func (x wide) times(y wide) wide {
	return least(product(x.lo, y.lo), product(x.lo, y.hi), product(x.hi, y.lo), product(x.hi, y.hi))
}

func (x wide) square() wide {
	s := least(product(x.lo, x.lo), product(x.hi, x.hi))
	if x.lo.Sign() <= 0 && x.hi.Sign() >= 0 {
		s.lo = new(big.Rat)
	}
	return s
}

func (x wide) over(y wide) wide {
	if y.lo.Sign() <= 0 {
		panic(api.ErrZero)
	}
	return least(quotient(x.lo, y.lo), quotient(x.lo, y.hi), quotient(x.hi, y.lo), quotient(x.hi, y.hi))
}

func (x wide) half() wide {
	return ranged(down(new(big.Rat).Quo(x.lo, ratio(2, 1))), up(new(big.Rat).Quo(x.hi, ratio(2, 1))))
}

func (x wide) root() wide {
	scaled := func(q *big.Rat) *big.Int { return new(big.Int).Lsh(q.Num(), 30) }
	low := new(big.Int).Sqrt(scaled(x.lo))
	high := new(big.Int).Sqrt(scaled(x.hi))
	if new(big.Int).Mul(high, high).Cmp(scaled(x.hi)) < 0 {
		high.Add(high, big.NewInt(1))
	}
	return ranged(new(big.Rat).SetInt(low), new(big.Rat).SetInt(high))
}

func (x wideRect) plus(y wideRect) wideRect { return wideRect{x.re.plus(y.re), x.im.plus(y.im)} }

func (x wideRect) minus(y wideRect) wideRect { return wideRect{x.re.minus(y.re), x.im.minus(y.im)} }

func (x wideRect) times(y wideRect) wideRect {
	return wideRect{x.re.times(y.re).minus(x.im.times(y.im)), x.re.times(y.im).plus(x.im.times(y.re))}
}

func (x wideRect) conjugate() wideRect {
	return wideRect{x.re, wide{new(big.Rat).Neg(x.im.hi), new(big.Rat).Neg(x.im.lo)}}
}

func (x wideRect) power() wide { return x.re.square().plus(x.im.square()) }

func (x wideRect) over(y wideRect) wideRect {
	p := y.power()
	if p.lo.Sign() <= 0 {
		panic(api.ErrZero)
	}
	z := x.times(y.conjugate())
	return wideRect{z.re.over(p), z.im.over(p)}
}

// exact returns the wide rectangle of a whole number.
func exact(n int) wideRect { return widenRect(point(n*one, 0)) }

// read returns what a reading returns, or its error.
func read[T any](f func() T) (result T, err api.Errno) {
	defer func() {
		if e := recover(); e != nil {
			err = e.(api.Errno)
		}
	}()
	return f(), api.OK
}

// readBinary returns the reading of a function of two rectangles.
func readBinary(name string, x, y api.Rect) (api.Rect, api.Errno) {
	a, b := widenRect(x), widenRect(y)
	return read(func() api.Rect {
		switch name {
		case "Add":
			return a.plus(b).narrow()
		case "Sub":
			return a.minus(b).narrow()
		case "Mul":
			return a.times(b).narrow()
		case "Div":
			return a.over(b).narrow()
		}
		panic("no function " + name)
	})
}

// readUnit returns the reading of Unit.
func readUnit(n int) wideRect {
	c := map[int]wide{2: widen(at(0))}
	s := map[int]wide{}
	unit := widen(at(one))
	for k := 2; k <= 9; k++ {
		c[k+1] = unit.plus(c[k]).half().root()
		s[k+1] = unit.minus(c[k]).half().root()
	}
	n = (n%1024 + 1024) % 1024
	z := exact(1)
	for b := 9; b >= 0; b-- {
		if n/(1<<b)%2 == 0 {
			continue
		}
		switch b {
		case 9:
			z = z.times(exact(-1))
		case 8:
			z = z.times(widenRect(point(0, one)))
		default:
			z = z.times(wideRect{c[10-b], s[10-b]})
		}
	}
	return z
}

// readPart returns the reading of Part of n and 10^6, as a rectangle.
func readPart(n int) wideRect {
	q := new(big.Rat).Mul(ratio(n, 1000000), ratio(one, 1))
	return wideRect{ranged(down(q), up(q)), widen(at(0))}
}

// readRing returns the reading of Ring, for arguments that are let.
func readRing(t, a, n int) (api.Rect, api.Errno) {
	return read(func() api.Rect {
		v := readPart(a).times(readUnit(n))
		above := readPart(t).minus(v)
		w := readPart(t).times(v)
		return above.over(exact(1).minus(w)).narrow()
	})
}

// readStar returns the reading of Star, for two-ports that are valid.
func readStar(p, q api.Port) (api.Port, api.Errno) {
	part := func(p api.Port, a, b int) wideRect { return widenRect(p.S[a][b]) }
	return read(func() (s api.Port) {
		d := exact(1).minus(part(p, 1, 1).times(part(q, 0, 0)))
		s.S[0][0] = part(p, 0, 0).plus(part(p, 0, 1).times(part(q, 0, 0)).times(part(p, 1, 0)).over(d)).narrow()
		s.S[0][1] = part(p, 0, 1).times(part(q, 0, 1)).over(d).narrow()
		s.S[1][0] = part(q, 1, 0).times(part(p, 1, 0)).over(d).narrow()
		s.S[1][1] = part(q, 1, 1).plus(part(q, 1, 0).times(part(p, 1, 1)).times(part(q, 0, 1)).over(d)).narrow()
		return s
	})
}

// call returns the text of a call with these arguments.
func call(name string, arguments ...any) string { return name + "(" + fmt.Sprint(arguments...) + ")" }
