package lit_test

import (
	"fmt"
	"math"
	"slices"
	"strings"
	"testing"

	"gudgeon/api"
	"gudgeon/lit"
)

// noPoints is numbers that are no code points.
var noPoints = []int{-1, -2, -92, -97, -196607, math.MinInt32, math.MinInt, math.MinInt + 97, 196608, 196609, 0x30000, 0x30061, 0x10ffff, math.MaxInt32, 1<<32 + 97, 1 << 40, math.MaxInt}

// wantLiteral complains if Escape answers otherwise.
func wantLiteral(t *testing.T, l []int, want string) {
	t.Helper()
	if got, e := lit.Escape(l); e != api.OK || got != want {
		t.Errorf("Escape(%v): %.60q, error %d, not %.60q", first(l), got, e, want)
	}
}

// wantNoLiteral complains if Escape answers anything but the error.
func wantNoLiteral(t *testing.T, l ...int) {
	t.Helper()
	if got, e := lit.Escape(l); e != api.ErrArg || got != "" {
		t.Errorf("Escape(%v): %.60q, error %d", first(l), got, e)
	}
}

// written is how one code point is written, told anew.
func written(c int) string {
	if strings.ContainsRune(" !\"#$%&'()*+,-./0123456789:;<=>?@ABCDEFGHIJKLMNOPQRSTUVWXYZ[]^_`abcdefghijklmnopqrstuvwxyz{|}~", rune(c)) {
		return string(rune(c))
	}
	return fmt.Sprintf("\\u{%x}", c)
}

func TestP72Example(t *testing.T) {
	wantLiteral(t, []int{97, 10, 92}, `a\u{a}\u{5c}`)
}

func TestP72Empty(t *testing.T) {
	wantLiteral(t, nil, "")
	wantLiteral(t, []int{}, "")
}

func TestP72Edges(t *testing.T) {
	for c, want := range map[int]string{
		0: `\u{0}`, 1: `\u{1}`, 9: `\u{9}`, 10: `\u{a}`, 15: `\u{f}`, 16: `\u{10}`, 31: `\u{1f}`, 32: " ", 33: "!", 34: `"`, 91: "[", 92: `\u{5c}`, 93: "]", 125: "}", 126: "~", 127: `\u{7f}`,
		128: `\u{80}`, 233: `\u{e9}`, 255: `\u{ff}`, 256: `\u{100}`, 4095: `\u{fff}`, 4096: `\u{1000}`, 0xabcd: `\u{abcd}`, 0xd800: `\u{d800}`, 65535: `\u{ffff}`, 65536: `\u{10000}`, 196606: `\u{2fffe}`, 196607: `\u{2ffff}`,
	} {
		wantLiteral(t, []int{c}, want)
		wantLiteral(t, []int{c, c}, want+want)
		wantLiteral(t, []int{'a', c, '0'}, "a"+want+"0")
		wantLiteral(t, []int{c, 92, c, 0}, want+`\u{5c}`+want+`\u{0}`)
	}
}

func TestP72AllCodePoints(t *testing.T) {
	var all []int
	var b strings.Builder
	for c := range 196608 {
		wantLiteral(t, []int{c}, written(c))
		all = append(all, c)
		b.WriteString(written(c))
	}
	wantLiteral(t, all, b.String())
}

// What looks like an escape without being one is written so that it stays so.
func TestP72Slashes(t *testing.T) {
	wantLiteral(t, bytesOf(`\u{62}`), `\u{5c}u{62}`)
	wantLiteral(t, bytesOf(`\u0062`), `\u{5c}u0062`)
	wantLiteral(t, bytesOf(`\\`), `\u{5c}\u{5c}`)
	wantLiteral(t, bytesOf(`""`), `""`)
	wantLiteral(t, bytesOf(`u{62}`), `u{62}`)
}

func TestP72NoCodePoints(t *testing.T) {
	for _, c := range noPoints {
		wantNoLiteral(t, c)
		wantNoLiteral(t, c, 97)
		wantNoLiteral(t, 97, c)
		wantNoLiteral(t, 97, 10, c, 92, 98)
		wantNoLiteral(t, c, c)
		wantNoLiteral(t, append(slices.Repeat([]int{97}, 100000), c)...)
	}
}

// wantBack complains if what is escaped isn't read back the same.
func wantBack(t *testing.T, l []int) {
	t.Helper()
	s, e := lit.Escape(l)
	if e != api.OK {
		t.Errorf("Escape(%v): error %d", first(l), e)
		return
	}
	wantPoints(t, s, l...)
}

func TestP74EscapedIsReadBack(t *testing.T) {
	wantBack(t, nil)
	wantBack(t, []int{})
	var all []int
	for c := range 196608 {
		wantBack(t, []int{c})
		all = append(all, c)
	}
	wantBack(t, all)
	slices.Reverse(all)
	wantBack(t, all)
}

// All short lists of what escapes are made of.
func TestP74ShortListsAreReadBack(t *testing.T) {
	for _, signs := range []string{`\u{62}0`, `\u0F{`, "\\u{\x00}"} {
		for n := range 8 {
			many := 1
			for range n {
				many *= len(signs)
			}
			for k := range many {
				l := make([]int, n)
				for i := range l {
					l[i] = int(signs[k%len(signs)])
					k /= len(signs)
				}
				wantBack(t, l)
			}
		}
	}
}
