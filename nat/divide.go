package nat

import (
	"math/bits"

	"gudgeon/api"
)

// DivMod is the whole part of a by b, and the rest; ErrZero, if b is 0.
func DivMod(a, b []uint32) ([]uint32, []uint32, api.Errno) {
	a, b = trim(a), trim(b)
	if len(b) == 0 {
		return nil, nil, api.ErrZero
	}
	if Cmp(a, b) < 0 {
		return nil, Norm(a), api.OK
	}
	if x, ok := small(a); ok {
		y, _ := small(b)
		return Of(x / y), Of(x % y), api.OK
	}
	if len(b) == 1 {
		q := Norm(a)
		r := divideBy(q, b[0])
		return trim(q), Of(uint64(r)), api.OK
	}
	q, r := divideLong(a, b)
	return q, r, api.OK
}

// Gcd is the greatest number that divides both; 0, if both are 0.
func Gcd(a, b []uint32) []uint32 {
	a, b = Norm(a), Norm(b)
	for len(b) > 0 {
		x, okA := small(a)
		y, okB := small(b)
		if okA && okB {
			return Of(gcdSmall(x, y))
		}
		_, r, _ := DivMod(a, b)
		a, b = b, r
	}
	return a
}

// gcdSmall is what divides both of two numbers of 64 bits.
func gcdSmall(x, y uint64) uint64 {
	for y != 0 {
		x, y = y, x%y
	}
	return x
}

// divideBy makes of the limbs a their whole part by d, and answers the rest.
func divideBy(a []uint32, d uint32) uint32 {
	rest := uint64(0)
	for k := range len(a) {
		i := len(a) - 1 - k
		t := rest<<limbBits | uint64(a[i])
		a[i] = uint32(t / uint64(d))
		rest = t % uint64(d)
	}
	return uint32(rest)
}

// divideLong divides trimmed numbers, of which b has two limbs or more, and a
// has no fewer. Both are shifted till the highest bit of b is set: then a limb
// that is guessed from the highest ones is at most one too great.
func divideLong(a, b []uint32) ([]uint32, []uint32) {
	n := len(b)
	shift := bits.LeadingZeros32(b[n-1])
	u := shiftUp(a, shift)
	v := shiftUp(b, shift)[:n]
	steps := len(a) - n + 1
	q := make([]uint32, steps)
	for k := range steps {
		j := steps - 1 - k
		part := u[j : j+n+1]
		guess := guessLimb(part, v)
		if takeTimes(part, v, guess) {
			guess--
			part[n] += addTimes(part[:n], v, 1)
		}
		q[j] = uint32(guess)
	}
	return trim(q), trim(shiftDown(u[:n], shift))
}

// guessLimb guesses how often v is in part, by its highest three limbs and the
// highest two of v: what is right, or one more.
func guessLimb(part, v []uint32) uint64 {
	n := len(v)
	top := uint64(part[n])<<limbBits | uint64(part[n-1])
	high, next := uint64(v[n-1]), uint64(v[n-2])
	guess, rest := top/high, top%high
	for guess>>limbBits != 0 || guess*next > rest<<limbBits|uint64(part[n-2]) {
		guess--
		rest += high
		if rest>>limbBits != 0 {
			break
		}
	}
	return guess
}

// takeTimes takes v away from part, k times, and tells whether that was once too often.
func takeTimes(part, v []uint32, k uint64) bool {
	n := len(v)
	carry, borrow := uint64(0), uint64(0)
	for i := range n {
		p := uint64(v[i])*k + carry
		carry = p >> limbBits
		t := uint64(part[i]) - uint64(uint32(p)) - borrow
		part[i] = uint32(t)
		borrow = t >> 63
	}
	t := uint64(part[n]) - carry - borrow
	part[n] = uint32(t)
	return t>>63 != 0
}

// shiftUp is a, shifted by less than a limb, with one limb more.
func shiftUp(a []uint32, shift int) []uint32 {
	out := make([]uint32, len(a)+1)
	carry := uint64(0)
	for i := range len(a) {
		t := uint64(a[i])<<shift | carry
		out[i] = uint32(t)
		carry = t >> limbBits
	}
	out[len(a)] = uint32(carry)
	return out
}

// shiftDown is a, shifted back by less than a limb.
func shiftDown(a []uint32, shift int) []uint32 {
	out := make([]uint32, len(a))
	for i := range len(a) {
		t := limb(a, i+1)<<limbBits | uint64(a[i])
		out[i] = uint32(t >> shift)
	}
	return out
}
