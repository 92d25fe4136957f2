package whole

import (
	"strings"

	"gudgeon/api"
	"gudgeon/nat"
)

// Text is the number's digits, with - ahead of them, if it is below 0.
func Text(a api.Whole) string {
	if Sign(a) < 0 {
		return "-" + nat.Text(a.N)
	}
	return nat.Text(a.N)
}

// Parse is the number whose Text s is; ErrForm, if there is none, or if nat's
// Parse of its digits has none.
func Parse(s string) (api.Whole, api.Errno) {
	digits, below := strings.CutPrefix(s, "-")
	n, e := nat.Parse(digits)
	if e != api.OK {
		return api.Whole{}, api.ErrForm
	}
	if !below {
		return signed(1, n), api.OK
	}
	if len(n) == 0 {
		return api.Whole{}, api.ErrForm
	}
	return signed(-1, n), api.OK
}
