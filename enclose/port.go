package enclose

import "photonmesh/api"

// Star joins port 1 of p with port 0 of q.
func Star(p, q api.Port) (api.Port, api.Errno) {
	if !validPort(p) || !validPort(q) {
		return api.Port{}, api.ErrSpan
	}
	return attempt(func() api.Port { return joined(p.S, q.S) })
}

// joined does what Star does. What goes to and fro between both two-ports is a sum without end, which is 1 / d.
func joined(p, q [2][2]api.Rect) api.Port {
	d := sub(onAxis(whole(1)), mul(p[1][1], q[0][0]))
	var s [2][2]api.Rect
	// The order of these decides which error comes first.
	s[0][0] = add(p[0][0], div(mul(mul(p[0][1], q[0][0]), p[1][0]), d))
	s[0][1] = div(mul(p[0][1], q[0][1]), d)
	s[1][0] = div(mul(q[1][0], p[1][0]), d)
	s[1][1] = add(q[1][1], div(mul(mul(q[1][0], p[1][1]), q[0][1]), d))
	return api.Port{S: s}
}

// Mirror exchanges both ports.
func Mirror(p api.Port) (api.Port, api.Errno) {
	if !validPort(p) {
		return api.Port{}, api.ErrSpan
	}
	return api.Port{S: [2][2]api.Rect{{p.S[1][1], p.S[1][0]}, {p.S[0][1], p.S[0][0]}}}, api.OK
}

// Passes returns the sums of the powers of what comes out of light that goes in at port 0, and at port 1.
func Passes(p api.Port) (api.Span, api.Span, api.Errno) {
	if !validPort(p) {
		return api.Span{}, api.Span{}, api.ErrSpan
	}
	sums, e := attempt(func() [2]api.Span {
		return [2]api.Span{passed(p, 0), passed(p, 1)}
	})
	return sums[0], sums[1], e
}

// passed returns the sum of the powers of what comes out of light that goes in at a port.
func passed(p api.Port, in int) api.Span {
	return addSpans(power(p.S[0][in]), power(p.S[1][in]))
}

// validPort reports whether p is a two-port.
func validPort(p api.Port) bool {
	return valid(p.S[0][0], p.S[0][1], p.S[1][0], p.S[1][1])
}
