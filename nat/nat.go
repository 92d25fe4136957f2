// Package nat is layer 1: whole numbers from 0 on, as great as one likes (shared/doc/01-nat.md).
//
// A number is a list of limbs, to the base 2^32, the lowest one first. Noughts
// behind the highest limb are passed over; what is answered has none.
package nat

import (
	"gudgeon/api"
)

// limbBits is how many bits a limb has.
const limbBits = 32

// Norm is the same number, without noughts behind its highest limb.
func Norm(a []uint32) []uint32 {
	a = trim(a)
	if len(a) == 0 {
		return nil
	}
	out := make([]uint32, len(a))
	copy(out, a)
	return out
}

// Of is n as a number.
func Of(n uint64) []uint32 {
	return trim([]uint32{uint32(n), uint32(n >> limbBits)})
}

// Int is the number as an int, and true, if it is below 2^62; else 0 and false.
func Int(a []uint32) (int, bool) {
	n, ok := small(trim(a))
	if !ok || n >= 1<<62 {
		return 0, false
	}
	return int(n), true
}

// Cmp is -1, if a is below b, 0, if they are one number, else 1.
func Cmp(a, b []uint32) int {
	a, b = trim(a), trim(b)
	if len(a) != len(b) {
		return sign(len(a) < len(b))
	}
	for k := range len(a) {
		i := len(a) - 1 - k
		if a[i] != b[i] {
			return sign(a[i] < b[i])
		}
	}
	return 0
}

// Add is the sum.
func Add(a, b []uint32) []uint32 {
	a, b = trim(a), trim(b)
	if len(a) < len(b) {
		a, b = b, a
	}
	out := make([]uint32, len(a)+1)
	copy(out, a)
	carry := uint64(0)
	for i := range len(a) {
		if i >= len(b) && carry == 0 {
			break
		}
		t := uint64(a[i]) + limb(b, i) + carry
		out[i] = uint32(t)
		carry = t >> limbBits
	}
	out[len(a)] = uint32(carry)
	return trim(out)
}

// Sub is the difference; ErrRange, if a is below b.
func Sub(a, b []uint32) ([]uint32, api.Errno) {
	a, b = trim(a), trim(b)
	if Cmp(a, b) < 0 {
		return nil, api.ErrRange
	}
	out := make([]uint32, len(a))
	copy(out, a)
	borrow := uint64(0)
	for i := range len(a) {
		if i >= len(b) && borrow == 0 {
			break
		}
		t := uint64(a[i]) - limb(b, i) - borrow
		out[i] = uint32(t)
		borrow = t >> 63
	}
	return trim(out), api.OK
}

// Mul is the product.
func Mul(a, b []uint32) []uint32 {
	a, b = trim(a), trim(b)
	if len(a) == 0 || len(b) == 0 {
		return nil
	}
	out := make([]uint32, len(a)+len(b))
	for i := range len(a) {
		out[i+len(b)] = addTimes(out[i:i+len(b)], b, uint64(a[i]))
	}
	return trim(out)
}

// addTimes adds k times b to the limbs at, which are as many as b's, and
// answers what is carried beyond them.
func addTimes(at, b []uint32, k uint64) uint32 {
	carry := uint64(0)
	for i := range len(b) {
		t := uint64(b[i])*k + uint64(at[i]) + carry
		at[i] = uint32(t)
		carry = t >> limbBits
	}
	return uint32(carry)
}

// trim is the same limbs without noughts behind the highest one; they are not copied.
func trim(a []uint32) []uint32 {
	n := len(a)
	for n > 0 && a[n-1] == 0 {
		n--
	}
	if n == 0 {
		return nil
	}
	return a[:n]
}

// small is what a trimmed number is, and true, if 64 bits hold it.
func small(a []uint32) (uint64, bool) {
	if len(a) > 2 {
		return 0, false
	}
	return limb(a, 1)<<limbBits | limb(a, 0), true
}

// limb is the limb i of a, 0 behind the last one.
func limb(a []uint32, i int) uint64 {
	if i >= len(a) {
		return 0
	}
	return uint64(a[i])
}

// sign is how Cmp tells that a is below, or above.
func sign(below bool) int {
	if below {
		return -1
	}
	return 1
}
