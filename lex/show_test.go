package lex_test

import (
	"math"
	"strings"
	"testing"

	"gudgeon/api"
	"gudgeon/lex"
)

// wantSimple complains if Simple answers otherwise.
func wantSimple(t *testing.T, s string, want bool) {
	t.Helper()
	if lex.Simple(s) != want {
		t.Errorf("Simple(%q): not %v", short(s), want)
	}
}

func TestP52Simple(t *testing.T) {
	for _, s := range []string{"x", "X0", "-", "-1", "+0", ".", ".5", "str.++", "~!@$%^&*_-+=<>.?/", letters, signs + digits, strings.Repeat("n", 20000), "let", "_"} {
		wantSimple(t, s, true)
	}
	for _, s := range []string{"", "0", "7x", "0-", digits, "a b", " a", "a ", "|a|", `"a"`, "a;", ":a", "#b1", "a(", ")", "a'b", "a\\", "a\nb", "a\x00", "\xe4", "ä", "xä", "a\xff"} {
		wantSimple(t, s, false)
	}
	for i := range 256 {
		b := byte(i)
		s := string([]byte{b})
		wantSimple(t, s, has(letters+signs, b))
		wantSimple(t, "x"+s, has(names, b))
		wantSimple(t, s+"x", has(letters+signs, b))
		wantSimple(t, "x"+s+"x", has(names, b))
	}
}

// wantShow complains if Show answers otherwise, at any place.
func wantShow(t *testing.T, kind int, text, want string) {
	t.Helper()
	for _, at := range []int{0, 1, -1, 16384, math.MaxInt, math.MinInt} {
		if got, e := lex.Show(tok(kind, text, at)); e != api.OK || got != want {
			t.Errorf("Show(%d %q at %d): %q, error %d, not %q", kind, short(text), at, short(got), e, short(want))
		}
	}
	wantLex(t, want, api.OK, len(want), tok(kind, text, 0))
}

// wantNoShow complains if a token is shown.
func wantNoShow(t *testing.T, kind int, text string) {
	t.Helper()
	for _, at := range []int{0, 7, -7} {
		if got, e := lex.Show(tok(kind, text, at)); e != api.ErrArg || got != "" {
			t.Errorf("Show(%d %q): %q, error %d", kind, short(text), short(got), e)
		}
	}
}

func TestP52ShowOfNames(t *testing.T) {
	for _, s := range []string{"x", "-1", ".5", "str.++", "let", letters, signs} {
		wantShow(t, api.TokSymbol, s, s)
	}
	for _, s := range []string{"", " ", "a b", "7", "007", "1x", `"`, `"a"`, "(", ")", ";", "a;b\nc", ":a", "#b1", "'", "[", "\t\r\n", "a|"[:1] + "`"} {
		wantShow(t, api.TokSymbol, s, "|"+s+"|")
	}
	for _, s := range []string{"|", "||", "a|", "|a", "a|b", "a| |b", "a|;", "|a|", "a| ", `\`, `a\b`, `\|`, "a\x00b", "\x80", "ä", "\x7f", "a| ;|b", "|(|"} {
		wantNoShow(t, api.TokSymbol, s)
	}
}

func TestP52ShowOfLiterals(t *testing.T) {
	for s, want := range map[string]string{
		"": `""`, "a": `"a"`, `"`: `""""`, `""`: `""""""`, `a"b`: `"a""b"`, `"a"`: `"""a"""`, `\u{62}`: `"\u{62}"`, `\`: `"\"`, "a\n\r\tb": "\"a\n\r\tb\"", "|;()": `"|;()"`,
	} {
		wantShow(t, api.TokString, s, want)
	}
	for _, s := range []string{"\x00", "a\x7f", "ä", "\xff", "a\x1fb"} {
		wantNoShow(t, api.TokString, s)
	}
}

func TestP52ShowOfOthers(t *testing.T) {
	for kind, texts := range map[int][]string{
		api.TokOpen: {"("}, api.TokClose: {")"}, api.TokNumeral: {"0", "7", "1234567890123456789012345678901234567890"},
		api.TokDecimal: {"0.0", "1.50", "10.01"}, api.TokKeyword: {":a", ":0", ":-"}, api.TokOther: {"#b01", "#xaB"},
	} {
		for _, s := range texts {
			wantShow(t, kind, s, s)
		}
	}
}

// What fits no kind, or another one than is told, is no token.
func TestP52ShowOfWhatIsNoToken(t *testing.T) {
	for _, kind := range []int{0, 9, 10, -1, 100, math.MaxInt, math.MinInt} {
		for _, s := range []string{"", "x", "(", ")", "7", "1.5", `"a"`, "a", ":a", "#b1", "|a|"} {
			wantNoShow(t, kind, s)
		}
	}
	texts := map[int]string{api.TokOpen: "(", api.TokClose: ")", api.TokNumeral: "7", api.TokDecimal: "1.5", api.TokKeyword: ":a", api.TokOther: "#b1"}
	for _, kind := range []int{api.TokOpen, api.TokClose, api.TokNumeral, api.TokDecimal, api.TokKeyword, api.TokOther} {
		for other, s := range texts {
			if other != kind {
				wantNoShow(t, kind, s)
			}
		}
		own := texts[kind]
		for _, s := range []string{
			"", " ", "x", "|x|", `"x"`, " " + own, own + " ", own + "\n", "\t" + own, own + ";", own + ";x", ";x\n" + own, own + " " + own, own + own + "(", own + "\x00", "\x00", "'", `\`,
		} {
			wantNoShow(t, kind, s)
		}
	}
	for _, s := range []string{"00", "07", "-7", "1.", "1a"} {
		wantNoShow(t, api.TokNumeral, s)
		wantNoShow(t, api.TokDecimal, s)
	}
	for _, s := range []string{":", "a", "::a", ":a:", "#", "#x", "#b", "#b2", "#X1"} {
		wantNoShow(t, api.TokKeyword, s)
		wantNoShow(t, api.TokOther, s)
	}
}

// What is written may be as long as a script, but no longer.
func TestP52ShowOfTextsThatAreTooLong(t *testing.T) {
	run := func(s string, n int) string { return strings.Repeat(s, n) }
	wantShow(t, api.TokSymbol, run("x", api.MaxScript), run("x", api.MaxScript))
	wantNoShow(t, api.TokSymbol, run("x", api.MaxScript+1))
	wantShow(t, api.TokSymbol, run(" ", api.MaxScript-2), "|"+run(" ", api.MaxScript-2)+"|")
	wantNoShow(t, api.TokSymbol, run(" ", api.MaxScript-1))
	wantShow(t, api.TokNumeral, run("9", api.MaxScript), run("9", api.MaxScript))
	wantNoShow(t, api.TokNumeral, run("9", api.MaxScript+1))
	wantShow(t, api.TokString, run("x", api.MaxScript-2), `"`+run("x", api.MaxScript-2)+`"`)
	wantNoShow(t, api.TokString, run("x", api.MaxScript-1))
	wantShow(t, api.TokString, run(`"`, api.MaxScript/2-1), run(`"`, api.MaxScript))
	wantNoShow(t, api.TokString, run(`"`, api.MaxScript/2))
	wantShow(t, api.TokString, run("x", api.MaxScript-4)+`"`, `"`+run("x", api.MaxScript-4)+`"""`)
	wantNoShow(t, api.TokString, run("x", api.MaxScript-3)+`"`)
	for kind := range 10 {
		wantNoShow(t, kind, run("x", 1<<20))
		wantNoShow(t, kind, run(`"`, 1<<20))
	}
}
