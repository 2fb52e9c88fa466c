package enclose

import "photonmesh/api"

const (
	turnBits = 10      // how many bits a number of parts of a turn has: MaxUnit is 2^turnBits
	million  = 1000000 // parts of 1 in which a ring is given
)

// Unit encloses the point of the unit circle at n parts of 1024 of a turn.
func Unit(n int) (api.Rect, api.Errno) {
	return attempt(func() api.Rect { return unit(n) })
}

// unit does what Unit does.
func unit(n int) api.Rect {
	points := halvings()
	z := onAxis(whole(1))
	for b := turnBits - 1; b >= 0; b-- {
		// The last bits are those of n modulo MaxUnit, for negative n as well.
		if n>>b&1 == 1 {
			z = mul(z, points[b])
		}
	}
	return z
}

// halvings returns the points at 2^b parts of 1024 of a turn, for each b.
func halvings() [turnBits]api.Rect {
	var l [turnBits]api.Rect
	l[turnBits-1] = onAxis(whole(-1))
	l[turnBits-2] = api.Rect{Re: whole(0), Im: whole(1)}
	// The cosine of half of an angle is the root of (1 + c) / 2, its sine that of (1 - c) / 2.
	for b := turnBits - 3; b >= 0; b-- {
		c := l[b+1].Re
		l[b] = api.Rect{
			Re: rootSpan(halfSpan(addSpans(whole(1), c))),
			Im: rootSpan(halfSpan(subSpans(whole(1), c))),
		}
	}
	return l
}

// Ring encloses what a ring with the coupling t and the loss a, n parts of 1024 of a turn around, lets through.
func Ring(t, a, n int) (api.Rect, api.Errno) {
	if t < 0 || t > million || a < 0 || a > million {
		return api.Rect{}, api.ErrArg
	}
	return attempt(func() api.Rect {
		coupling := onAxis(scaled(t, api.One, million))
		v := mul(onAxis(scaled(a, api.One, million)), unit(n))
		over := sub(coupling, v)
		return div(over, sub(onAxis(whole(1)), mul(coupling, v)))
	})
}
