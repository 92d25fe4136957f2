package whole

import (
	"gudgeon/api"
	"gudgeon/nat"
)

// DivMod is q and r, for which q times b, and r, are a, and r is 0 or more, and
// below b without its Neg; ErrZero, if b is 0.
func DivMod(a, b api.Whole) (api.Whole, api.Whole, api.Errno) {
	s, t := Sign(a), Sign(b)
	if t == 0 {
		return api.Whole{}, api.Whole{}, api.ErrZero
	}
	q, r := share(a.N, b.N, s < 0)
	return signed(s*t, q), signed(1, r), api.OK
}

// Floor is the greatest number that is at most a by b; ErrZero, if b is 0.
func Floor(a, b api.Whole) (api.Whole, api.Errno) {
	s, t := Sign(a), Sign(b)
	if t == 0 {
		return api.Whole{}, api.ErrZero
	}
	q, _ := share(a.N, b.N, s*t < 0)
	return signed(s*t, q), api.OK
}

// share divides n by d, which is not 0. Where n is thought of as below 0, d is
// taken once more often than it is in n, if something would be left: so the
// rest is what lies between, and never below 0.
func share(n, d []uint32, below bool) ([]uint32, []uint32) {
	q, r, _ := nat.DivMod(n, d)
	if !below || len(r) == 0 {
		return q, r
	}
	r, _ = nat.Sub(d, r)
	return nat.Add(q, nat.Of(1)), r
}
