package enclose

import "photonmesh/api"

// This file has the operations on rectangles. They take valid rectangles, and
// panic with the error of the first operation on spans that has one, or with
// ErrZero.

// onAxis returns a span as a rectangle.
func onAxis(s api.Span) api.Rect {
	return api.Rect{Re: s}
}

// add returns x + y.
func add(x, y api.Rect) api.Rect {
	return api.Rect{Re: addSpans(x.Re, y.Re), Im: addSpans(x.Im, y.Im)}
}

// sub returns x - y.
func sub(x, y api.Rect) api.Rect {
	return api.Rect{Re: subSpans(x.Re, y.Re), Im: subSpans(x.Im, y.Im)}
}

// mul returns x * y.
func mul(x, y api.Rect) api.Rect {
	return api.Rect{
		Re: subSpans(mulSpans(x.Re, y.Re), mulSpans(x.Im, y.Im)),
		Im: addSpans(mulSpans(x.Re, y.Im), mulSpans(x.Im, y.Re)),
	}
}

// div returns x / y; it panics with ErrZero if the power of y may be 0.
func div(x, y api.Rect) api.Rect {
	p := power(y)
	if p.Lo <= 0 {
		panic(api.ErrZero)
	}
	z := mul(x, conjugate(y))
	return api.Rect{Re: divSpans(z.Re, p), Im: divSpans(z.Im, p)}
}

// conjugate returns the conjugate of x.
func conjugate(x api.Rect) api.Rect {
	return api.Rect{Re: x.Re, Im: negated(x.Im)}
}

// power returns the square of the absolute value of x.
func power(x api.Rect) api.Span {
	return addSpans(squareSpan(x.Re), squareSpan(x.Im))
}

// meet returns what both x and y enclose: it is not valid if there is nothing.
func meet(x, y api.Rect) api.Rect {
	return api.Rect{Re: meetSpans(x.Re, y.Re), Im: meetSpans(x.Im, y.Im)}
}

// meetSpans does for spans what meet does.
func meetSpans(x, y api.Span) api.Span {
	return api.Span{Lo: max(x.Lo, y.Lo), Hi: min(x.Hi, y.Hi)}
}
