package nat

import (
	"slices"

	"gudgeon/api"
)

const (
	// maxText is how many bytes a text has at most that is parsed.
	maxText = 2000
	// chunkDigits is how many digits are turned at once: as many as a limb always holds.
	chunkDigits = 9
	chunkBase   = 1000000000
)

// Text is the number's digits, to the base 10, the highest one first.
func Text(a []uint32) string {
	left := Norm(a)
	if len(left) == 0 {
		return "0"
	}
	var digits []byte
	for len(left) > 0 {
		chunk := divideBy(left, chunkBase)
		left = trim(left)
		for range chunkDigits {
			digits = append(digits, byte('0'+chunk%10))
			chunk /= 10
		}
	}
	n := len(digits)
	for digits[n-1] == '0' {
		n--
	}
	slices.Reverse(digits[:n])
	return string(digits[:n])
}

// Parse is the number whose Text s is; ErrForm, if there is none, or s has more than 2000 bytes.
func Parse(s string) ([]uint32, api.Errno) {
	if !isText(s) {
		return nil, api.ErrForm
	}
	out := make([]uint32, len(s)/chunkDigits+1)
	scale, chunk := uint64(1), uint64(0)
	for i := range len(s) {
		scale *= 10
		chunk = chunk*10 + uint64(s[i]-'0')
		if scale == chunkBase || i == len(s)-1 {
			timesPlus(out, scale, chunk)
			scale, chunk = 1, 0
		}
	}
	return trim(out), api.OK
}

// isText tells whether s is some number's Text, and not too long to be parsed.
func isText(s string) bool {
	if s == "" || len(s) > maxText || s[0] == '0' && s != "0" {
		return false
	}
	for i := range len(s) {
		if s[i] < '0' || s[i] > '9' {
			return false
		}
	}
	return true
}

// timesPlus makes of the limbs a their product with k, and more; they have the room.
func timesPlus(a []uint32, k, more uint64) {
	carry := more
	for i := range len(a) {
		t := uint64(a[i])*k + carry
		a[i] = uint32(t)
		carry = t >> limbBits
	}
}
