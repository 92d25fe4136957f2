package lit_test

import (
	"math/rand"
	"regexp"
	"strconv"
	"strings"
	"testing"

	"gudgeon/api"
	"gudgeon/lit"
)

var escape = regexp.MustCompile(`^\\u(?:([0-9a-fA-F]{4})|\{([0-9a-fA-F]{1,5})\})`)

// plain is a literal's code points, told anew: by a pattern for escapes.
func plain(s string) []int {
	var l []int
	for i := 0; i < len(s); i++ {
		c := int64(s[i])
		if m := escape.FindStringSubmatch(s[i:]); m != nil {
			if n, err := strconv.ParseInt(m[1]+m[2], 16, 64); err == nil && n <= 196607 {
				c = n
				i += len(m[0]) - 1
			}
		}
		l = append(l, int(c))
	}
	return l
}

// All short literals that begin so, of a few signs.
func wantAllShort(t *testing.T, begin, signs string, most int) {
	t.Helper()
	var all func(s string, more int)
	all = func(s string, more int) {
		wantPoints(t, s, plain(s)...)
		for i := 0; more > 0 && i < len(signs); i++ {
			all(s+signs[i:i+1], more-1)
		}
	}
	all(begin, most)
}

func TestP71AllShortLiterals(t *testing.T) {
	wantAllShort(t, "", `\u{}0Fg`, 6)
	wantAllShort(t, `\u`, `\{}2fg`, 6)
	wantAllShort(t, `\u{`, `}23Fg`, 7)
	wantAllShort(t, `x\`, `u\{}6`, 7)
}

// anyLiteral is some literal, in which much is an escape, or nearly one.
func anyLiteral(r *rand.Rand) string {
	var b strings.Builder
	pieces := []string{`\`, `\u`, `\u{`, "u", "{", "}", "0", "2", "3", "f", "F", "62", "00", "ffff", "g", "G", " ", `"`, "\n", "é", `\u{62}`, `\u0063`, `\u{2ffff}`, `\u{30000}`, `\u{5c}`}
	for range r.Intn(30) {
		if r.Intn(20) == 0 {
			b.WriteByte(byte(r.Intn(256)))
			continue
		}
		b.WriteString(pieces[r.Intn(len(pieces))])
	}
	return b.String()
}

func TestP71AnyLiterals(t *testing.T) {
	r := rand.New(rand.NewSource(71))
	for range 50000 {
		s := anyLiteral(r)
		wantPoints(t, s, plain(s)...)
	}
}

// anyPoints is some code points, in which much stands several times, and little is beyond what may be.
func anyPoints(r *rand.Rand, wrong int) []int {
	l := []int{}
	for range r.Intn(30) {
		c := []int{0, 31, 32, 92, 97, 98, 117, 123, 126, 127, 196607, r.Intn(256), r.Intn(196608)}[r.Intn(13)]
		if r.Intn(100) < wrong {
			c = noPoints[r.Intn(len(noPoints))]
		}
		for range 1 + r.Intn(3) {
			l = append(l, c)
		}
	}
	return l
}

// right tells whether all are code points.
func right(l []int) bool {
	for _, c := range l {
		if c < 0 || c > 196607 {
			return false
		}
	}
	return true
}

func TestP72P73P74AnyCodePoints(t *testing.T) {
	r := rand.New(rand.NewSource(72))
	for range 20000 {
		l := anyPoints(r, 2*r.Intn(2))
		if !right(l) {
			wantNoLiteral(t, l...)
			wantNoRuns(t, api.ErrArg, l...)
			continue
		}
		var want strings.Builder
		var runs []api.Run
		for i, c := range l {
			want.WriteString(written(c))
			if i == 0 || l[i-1] != c {
				runs = append(runs, run(c, 0))
			}
			runs[len(runs)-1].N++
		}
		wantLiteral(t, l, want.String())
		wantRuns(t, l, runs...)
		wantBack(t, l)
		wantListed(t, l)
	}
}

// What is said by any literal is said by what it is escaped to.
func TestP74AnyLiterals(t *testing.T) {
	r := rand.New(rand.NewSource(74))
	for range 20000 {
		wantBack(t, lit.Points(anyLiteral(r)))
	}
}
