package show_test

import (
	"math"
	"math/big"
	"math/rand"
	"strings"
	"testing"

	"gudgeon/api"
	"gudgeon/show"
)

func TestP122Truths(t *testing.T) {
	wantValue(t, truthOf(true), "true")
	wantValue(t, truthOf(false), "false")
	wantIs(t, truthOf(true))
	wantIs(t, truthOf(false))
}

func TestP122Numbers(t *testing.T) {
	for _, digits := range []string{"0", "1", "5", "9", "10", "4294967295", "4294967296", "4294967297", "18446744073709551615", "18446744073709551616", "340282366920938463463374607431768211456", "1" + strings.Repeat("0", 300), strings.Repeat("9", 2000)} {
		wantValue(t, numberOf(digits), digits)
		wantIs(t, numberOf(digits))
		if digits == "0" {
			continue
		}
		wantValue(t, numberOf("-"+digits), "(- "+digits+")")
		wantIs(t, numberOf("-"+digits))
	}
	wantValue(t, numberOf("-5"), "(- 5)")
}

// Digits are told of numbers, however many they are.
func TestP122LongNumbers(t *testing.T) {
	n := api.Whole{N: make([]uint32, 1000)}
	n.N[999] = 1
	want := new(big.Int).Lsh(big.NewInt(1), 31968).String()
	wantValue(t, api.Value{Sort: api.SortInt, I: n}, want)
	n.Neg = true
	wantValue(t, api.Value{Sort: api.SortInt, I: n}, "(- "+want+")")
}

func TestP122NumbersNotInTheirOwnForm(t *testing.T) {
	for _, c := range []struct {
		n    api.Whole
		want string
	}{
		{api.Whole{}, "0"}, {api.Whole{Neg: true}, "0"}, {api.Whole{N: []uint32{}}, "0"}, {api.Whole{N: []uint32{0}}, "0"}, {api.Whole{N: []uint32{0, 0, 0}}, "0"}, {api.Whole{N: []uint32{0}, Neg: true}, "0"}, {api.Whole{N: []uint32{0, 0}, Neg: true}, "0"},
		{api.Whole{N: []uint32{7, 0}}, "7"}, {api.Whole{N: []uint32{7, 0, 0}, Neg: true}, "(- 7)"}, {api.Whole{N: []uint32{0, 1, 0}}, "4294967296"}, {api.Whole{N: []uint32{0, 1, 0, 0}, Neg: true}, "(- 4294967296)"},
	} {
		v := api.Value{Sort: api.SortInt, I: c.n}
		wantValue(t, v, c.want)
		wantIs(t, v)
	}
}

// Of all that a value bears only what its sort says is told.
func TestP122WhatItsSortSays(t *testing.T) {
	odd := []api.Value{
		{B: true, I: num("-5"), S: chars("ab")}, {I: num("7")}, {B: true, I: api.Whole{Neg: true}, S: []api.Run{{}}}, {S: zigzag(70000, 1)}, {S: []api.Run{run(97, math.MaxInt), run(98, math.MaxInt)}}, {B: true, S: []api.Run{run(-1, -1)}}, {I: api.Whole{Neg: true, N: []uint32{0, 0}}, S: zigzag(65536, 1)},
	}
	for _, v := range odd {
		v.Sort = api.SortBool
		wantValue(t, v, map[bool]string{true: "true", false: "false"}[v.B])
		v.Sort = api.SortInt
		digits := decimal(v.I)
		if digits[0] == '-' {
			digits = "(- " + digits[1:] + ")"
		}
		wantValue(t, v, digits)
	}
	odd[0].Sort = api.SortStr
	wantValue(t, odd[0], `"ab"`)
	odd[1].Sort = api.SortStr
	wantValue(t, odd[1], `""`)
}

func TestP122Literals(t *testing.T) {
	for _, c := range []struct{ points, want string }{
		{"", `""`}, {"a", `"a"`}, {"abba", `"abba"`}, {`a"b`, `"a""b"`}, {`\`, `"\u{5c}"`}, {`\u{0}\u{2ffff}`, `"\u{0}\u{2ffff}"`}, {" ~", `" ~"`}, {"\n\x7f\xff", `"\u{a}\u{7f}\u{ff}"`}, {`\u{30000}`, `"\u{5c}u{30000}"`}, {"(x) ; |y|", `"(x) ; |y|"`},
	} {
		wantValue(t, textOf(chars(c.points)), c.want)
		wantIs(t, textOf(chars(c.points)))
	}
	wantValue(t, textOf([]api.Run{}), `""`)
}

func TestP122AnyNumbers(t *testing.T) {
	r := rand.New(rand.NewSource(3))
	for range 2000 {
		n := api.Whole{N: make([]uint32, r.Intn(6)), Neg: r.Intn(2) == 0}
		for i := range n.N {
			n.N[i] = r.Uint32() >> r.Intn(33)
		}
		want := decimal(n)
		if want[0] == '-' {
			want = "(- " + want[1:] + ")"
		}
		wantValue(t, api.Value{Sort: api.SortInt, I: n}, want)
		wantIs(t, api.Value{Sort: api.SortInt, I: n})
	}
}

// noTexts is texts that may not be.
func noTexts() [][]api.Run {
	return [][]api.Run{
		{{}}, {run(97, 0)}, {run(97, -1)}, {run(97, math.MinInt)}, {run(-1, 1)}, {run(0x30000, 1)}, {run(math.MaxInt, 1)}, {run(math.MinInt, 1)}, {run(97, 1), run(97, 1)}, {run(97, 1), run(98, 1), run(98, 1)}, {run(97, 1), run(98, 0)},
		{run(97, most+1)}, {run(97, most), run(98, 1)}, {run(97, 1), run(98, most)}, {run(97, math.MaxInt)}, {run(97, math.MaxInt), run(98, math.MaxInt), run(97, 2)}, {run(97, 2000), run(97, 2000)}, zigzag(65537, 1), zigzag(65537, 1<<20), append(zigzag(300, 1000), run(-1, 1)), append(zigzag(300, 1001), run(1, -1)),
	}
}

func TestP122NoValue(t *testing.T) {
	for _, s := range noTexts() {
		x, e := show.Value(textOf(s))
		wantNone(t, "a text that may not be", x, e, api.ErrArg)
		x, e = show.Value(api.Value{Sort: api.SortStr, B: true, I: num("5"), S: s})
		wantNone(t, "a text that may not be", x, e, api.ErrArg)
	}
	for _, sort := range []int{0, -1, -2, -3, 4, 5, 256, 257, 258, 259, 1<<32 + 1, 1<<32 + 2, 1<<32 + 3, math.MaxInt, math.MinInt, math.MinInt + 1, math.MinInt + 2, math.MinInt + 3} {
		for _, v := range []api.Value{{}, {B: true}, {I: num("5")}, {S: chars("ab")}, {B: true, I: num("-5"), S: chars("ab")}, {S: []api.Run{{}}}, {S: lengths(5000)}} {
			v.Sort = sort
			x, e := show.Value(v)
			wantNone(t, "no sort", x, e, api.ErrArg)
		}
	}
}
