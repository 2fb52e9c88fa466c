package probe

import (
	"photonmesh/amp"
	"photonmesh/api"
)

const (
	maxReading = 1000000 // greatest reading
	maxMixed   = 100     // fringes for Mixed
	octants    = 8       // octants of a turn
)

// Fringe returns the fringe of four readings.
func Fringe(readings [4]int) (api.Fringe, api.Errno) {
	for _, r := range readings {
		if r < 0 || r > maxReading {
			return api.Fringe{}, api.ErrArg
		}
	}
	f := api.Fringe{
		Mean2: readings[0] + readings[2],
		X:     readings[0] - readings[2],
		Y:     readings[1] - readings[3],
	}
	if f.Mean2 != readings[1]+readings[3] || !ValidFringe(f) {
		return api.Fringe{}, api.ErrTests
	}
	return f, api.OK
}

// ValidFringe reports whether a fringe is valid.
func ValidFringe(f api.Fringe) bool {
	if f.Mean2 < 0 || f.Mean2 > 2*maxReading {
		return false
	}
	if max(f.X, f.Y) > maxReading || min(f.X, f.Y) < -maxReading {
		return false
	}
	return f.X*f.X+f.Y*f.Y <= f.Mean2*f.Mean2
}

// Readings returns the four readings of a fringe.
func Readings(f api.Fringe) ([4]int, api.Errno) {
	if !ValidFringe(f) {
		return [4]int{}, api.ErrTests
	}
	readings := [4]int{f.Mean2 + f.X, f.Mean2 + f.Y, f.Mean2 - f.X, f.Mean2 - f.Y}
	for i, twice := range readings {
		// None is less than 0: in a valid fringe Mean2 is at least the size of X and of Y.
		if twice%2 != 0 || twice > 2*maxReading {
			return [4]int{}, api.ErrArg
		}
		readings[i] = twice / 2
	}
	return readings, api.OK
}

// Visibility returns the square of the fringe's vector, divided by that of Mean2.
func Visibility(f api.Fringe) (api.Ratio, api.Errno) {
	if !ValidFringe(f) {
		return api.Ratio{}, api.ErrTests
	}
	if f.Mean2 == 0 {
		return api.Ratio{}, api.ErrNone
	}
	n, d := f.X*f.X+f.Y*f.Y, f.Mean2*f.Mean2
	common := divisor(n, d)
	return api.Ratio{N: n / common, D: d / common}, api.OK
}

// divisor returns the greatest common divisor of two numbers that are not negative, and not both 0.
func divisor(a, b int) int {
	for b != 0 {
		a, b = b, a%b
	}
	return a
}

// Octant returns the octant of the fringe's vector.
func Octant(f api.Fringe) (int, api.Errno) {
	if !ValidFringe(f) {
		return 0, api.ErrTests
	}
	if f.X == 0 && f.Y == 0 {
		return 0, api.ErrNone
	}
	vector := api.Num{A: [4]int{f.X, 0, f.Y, 0}}
	octant, most := 0, along(vector, 0)
	for k := 1; k < octants; k++ {
		part := along(vector, k)
		if order, _ := amp.Cmp(part, most); order > 0 {
			octant, most = k, part
		}
	}
	return octant, api.OK
}

// along returns twice the part of a vector along w^k, which is the real part of the vector turned back.
func along(vector api.Num, k int) api.Num {
	turned, _ := amp.Turn(vector, -k)
	mirrored, _ := amp.Conj(turned)
	part, _ := amp.Add(turned, mirrored)
	return part
}

// Mixed returns the fringe with the sums of all fringes.
func Mixed(l []api.Fringe) (api.Fringe, api.Errno) {
	for _, f := range l {
		if !ValidFringe(f) {
			return api.Fringe{}, api.ErrTests
		}
	}
	if len(l) < 1 || len(l) > maxMixed {
		return api.Fringe{}, api.ErrArg
	}
	var sum api.Fringe
	for _, f := range l {
		sum.Mean2 += f.Mean2
		sum.X += f.X
		sum.Y += f.Y
	}
	if !ValidFringe(sum) {
		return api.Fringe{}, api.ErrLimit
	}
	return sum, api.OK
}
