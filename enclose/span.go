package enclose

import (
	"cmp"
	"math/bits"
	"sort"

	"photonmesh/api"
)

// This file has the operations on spans. They take valid spans, and panic with
// ErrLimit if a bound of their result is out of range.

// maxRoot is the root of MaxSpan, both in parts of One.
const maxRoot = 1 << 35

// whole returns the span that encloses n alone.
func whole(n int) api.Span {
	return api.Span{Lo: n * api.One, Hi: n * api.One}
}

// inRange returns s; it panics if a bound is out of range.
func inRange(s api.Span) api.Span {
	if !Valid(s) {
		panic(api.ErrLimit)
	}
	return s
}

// addSpans returns x + y.
func addSpans(x, y api.Span) api.Span {
	return inRange(api.Span{Lo: x.Lo + y.Lo, Hi: x.Hi + y.Hi})
}

// subSpans returns x - y.
func subSpans(x, y api.Span) api.Span {
	return addSpans(x, negated(y))
}

// mulSpans returns x * y.
func mulSpans(x, y api.Span) api.Span {
	return hull(scaled(x.Lo, y.Lo, api.One), scaled(x.Lo, y.Hi, api.One), scaled(x.Hi, y.Lo, api.One), scaled(x.Hi, y.Hi, api.One))
}

// divSpans returns x / y, for a y that encloses only numbers greater than 0: all divisors are powers.
func divSpans(x, y api.Span) api.Span {
	return hull(scaled(x.Lo, api.One, y.Lo), scaled(x.Lo, api.One, y.Hi), scaled(x.Hi, api.One, y.Lo), scaled(x.Hi, api.One, y.Hi))
}

// squareSpan returns x^2.
func squareSpan(x api.Span) api.Span {
	s := hull(scaled(x.Lo, x.Lo, api.One), scaled(x.Hi, x.Hi, api.One))
	if x.Lo <= 0 && x.Hi >= 0 {
		s.Lo = 0
	}
	return s
}

// halfSpan returns x / 2.
func halfSpan(x api.Span) api.Span {
	// The shift rounds down.
	return api.Span{Lo: x.Lo >> 1, Hi: -(-x.Hi >> 1)}
}

// rootSpan returns the root of x, for an x that encloses no numbers less than 0.
func rootSpan(x api.Span) api.Span {
	above := sort.Search(maxRoot+1, func(t int) bool { return compareSquare(t, x.Lo) > 0 })
	from := sort.Search(maxRoot+1, func(t int) bool { return compareSquare(t, x.Hi) >= 0 })
	return api.Span{Lo: above - 1, Hi: from}
}

// compareSquare compares t^2 with bound * One; none of them is negative.
func compareSquare(t, bound int) int {
	high, low := bits.Mul64(uint64(t), uint64(t))
	otherHigh, otherLow := bits.Mul64(uint64(bound), api.One)
	return cmp.Or(cmp.Compare(high, otherHigh), cmp.Compare(low, otherLow))
}

// negated returns -x.
func negated(x api.Span) api.Span {
	return api.Span{Lo: -x.Hi, Hi: -x.Lo}
}

// hull returns the least span that encloses all of these.
func hull(s api.Span, others ...api.Span) api.Span {
	for _, x := range others {
		s.Lo, s.Hi = min(s.Lo, x.Lo), max(s.Hi, x.Hi)
	}
	return s
}

// scaled returns a * b / d, rounded down and up; d is greater than 0. It panics if
// that is out of range, for then the result that it would be a part of is so too.
func scaled(a, b, d int) api.Span {
	high, low := bits.Mul64(distance(a), distance(b))
	// Div64 forms only quotients of 64 bits, and int holds even less.
	if high >= uint64(d) {
		panic(api.ErrLimit)
	}
	quotient, rest := bits.Div64(high, low, uint64(d))
	if quotient > api.MaxSpan {
		panic(api.ErrLimit)
	}
	s := api.Span{Lo: int(quotient), Hi: int(quotient)}
	if rest > 0 {
		s.Hi++
	}
	if (a < 0) != (b < 0) {
		s = negated(s)
	}
	return inRange(s)
}

// distance returns the absolute value of n.
func distance(n int) uint64 {
	return uint64(max(n, -n))
}
