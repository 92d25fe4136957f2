package lin

import (
	"gudgeon/api"
	"gudgeon/nat"
	"gudgeon/whole"
)

// Tight says the same of whole numbers as the claim that a is not below 0, by the least numbers; and
// 1, if that is so whatever the variables are, -1, if it is not, 0, if that hangs on them.
func Tight(a api.Lin) (api.Lin, int) {
	a = Norm(a)
	if len(a.V) == 0 {
		return a, known(whole.Sign(a.C) >= 0)
	}
	return each(a, by(common(a.V))), 0
}

// Even does so of the claim that a is 0; -1 also if no whole numbers make it so.
func Even(a api.Lin) (api.Lin, int) {
	a = Norm(a)
	if len(a.V) == 0 {
		return a, known(whole.Sign(a.C) == 0)
	}
	g := common(a.V)
	if _, rest, _ := whole.DivMod(a.C, g); whole.Sign(rest) != 0 {
		return a, -1
	}
	if a.V[0].K.Neg {
		g = whole.Neg(g)
	}
	return each(a, by(g)), 0
}

// known is how it is told that a claim is so, or is not.
func known(so bool) int {
	if so {
		return 1
	}
	return -1
}

// common is the greatest number that divides how often each variable of l stands there.
func common(l []api.Mono) api.Whole {
	var g []uint32
	for _, m := range l {
		g = nat.Gcd(g, m.K.N)
	}
	return api.Whole{N: g}
}

// by makes what divides numbers by g, which is not 0, and rounds them down.
func by(g api.Whole) func(n api.Whole) api.Whole {
	return func(n api.Whole) api.Whole {
		q, _ := whole.Floor(n, g)
		return q
	}
}
