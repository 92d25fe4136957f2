package lex_test

import (
	"slices"
	"strings"
	"testing"

	"gudgeon/api"
	"gudgeon/lex"
)

// tok is a token, with a place.
func tok(kind int, text string, at int) api.Token { return api.Token{Kind: kind, Text: text, At: at} }

// short is a text to complain about: no more than its beginning.
func short(s string) string { return s[:min(len(s), 60)] }

// wantLex complains if Lex answers otherwise.
func wantLex(t *testing.T, s string, e api.Errno, at int, want ...api.Token) {
	t.Helper()
	got, gotE, gotAt := lex.Lex(s)
	if gotE != e || gotAt != at {
		t.Errorf("Lex(%q): error %d at %d, not %d at %d", short(s), gotE, gotAt, e, at)
	}
	if !slices.Equal(got, want) {
		t.Errorf("Lex(%q): the %d tokens %v, not the %d %v", short(s), len(got), got[:min(len(got), 9)], len(want), want[:min(len(want), 9)])
	}
}

// wantOne complains if Lex of s isn't one token that takes all of it.
func wantOne(t *testing.T, s string, kind int, text string) {
	t.Helper()
	wantLex(t, s, api.OK, len(s), tok(kind, text, 0))
	wantLex(t, " \n"+s+"\t\r", api.OK, len(s)+4, tok(kind, text, 2))
	wantLex(t, "("+s+")", api.OK, len(s)+2, tok(api.TokOpen, "(", 0), tok(kind, text, 1), tok(api.TokClose, ")", len(s)+1))
}

// wantWrong complains if Lex of s has not that error at its beginning, and of s behind others the same, with those.
func wantWrong(t *testing.T, s string, e api.Errno) {
	t.Helper()
	wantLex(t, s, e, 0)
	wantLex(t, " ;'\n "+s, e, 5)
	wantLex(t, `( x "ab" 7 `+s, e, 11, tok(api.TokOpen, "(", 0), tok(api.TokSymbol, "x", 2), tok(api.TokString, "ab", 4), tok(api.TokNumeral, "7", 9))
}

func TestP51Examples(t *testing.T) {
	wantLex(t, `(assert (= x "a""b")) ; that`, api.OK, 28,
		tok(api.TokOpen, "(", 0), tok(api.TokSymbol, "assert", 1), tok(api.TokOpen, "(", 8), tok(api.TokSymbol, "=", 9),
		tok(api.TokSymbol, "x", 11), tok(api.TokString, `a"b`, 13), tok(api.TokClose, ")", 19), tok(api.TokClose, ")", 20))
	wantLex(t, "007", api.ErrForm, 0)
	wantLex(t, `(x "ab`, api.ErrEnd, 3, tok(api.TokOpen, "(", 0), tok(api.TokSymbol, "x", 1))
}

func TestP51EmptyScriptsAndBlanks(t *testing.T) {
	for _, s := range []string{"", " ", "\t", "\n", "\r", "\t\n\r ", strings.Repeat(" \t\r\n", 4096)} {
		wantLex(t, s, api.OK, len(s))
	}
}

func TestP51Remarks(t *testing.T) {
	for _, s := range []string{";", ";\n", ";;;", "; a b (", "; a b (\n", ";\"", ";|", ";'[]{},\\`\n;\t\r;", " \n;x\n\n ;y"} {
		wantLex(t, s, api.OK, len(s))
		wantLex(t, s+"\nx", api.OK, len(s)+2, tok(api.TokSymbol, "x", len(s)+1))
		wantLex(t, "x"+s, api.OK, len(s)+1, tok(api.TokSymbol, "x", 0))
	}
	// A carriage return ends no remark.
	wantLex(t, "a;b\rc\nd;e", api.OK, 9, tok(api.TokSymbol, "a", 0), tok(api.TokSymbol, "d", 6))
	wantLex(t, "7;8\n9", api.OK, 5, tok(api.TokNumeral, "7", 0), tok(api.TokNumeral, "9", 4))
	// Within a literal, or a name in bars, a semicolon begins none.
	wantLex(t, `";";`, api.OK, 4, tok(api.TokString, ";", 0))
	wantLex(t, "|;|;", api.OK, 4, tok(api.TokSymbol, ";", 0))
}

func TestP51Names(t *testing.T) {
	for _, s := range []string{
		"x", "Z", "declare-const", "str.++", "=", "<=", ">=", "+", "-", "*", "/", "-1", "+0", ".5", ".", "_", "a0", "!x", "~!@$%^&*_-+=<>.?/",
		"abcdefghijklmnopqrstuvwxyz", "ABCDEFGHIJKLMNOPQRSTUVWXYZ", "a0123456789",
	} {
		wantOne(t, s, api.TokSymbol, s)
		wantOne(t, "|"+s+"|", api.TokSymbol, s)
	}
	long := strings.Repeat("n", api.MaxScript)
	wantLex(t, long, api.OK, len(long), tok(api.TokSymbol, long, 0))
}

func TestP51NamesInBars(t *testing.T) {
	for _, s := range []string{"", " ", "a b", "\n", "a\nb\r\tc", `"`, `""`, `a"b`, ";", "; a\n", "007", "0", "(", ")", "()", "'", ",", "[]{}`", ":", "#", "#x", "let"} {
		wantOne(t, "|"+s+"|", api.TokSymbol, s)
		wantWrong(t, "|"+s, api.ErrEnd)
	}
	wantLex(t, "||||", api.OK, 4, tok(api.TokSymbol, "", 0), tok(api.TokSymbol, "", 2))
	wantLex(t, "|||", api.ErrEnd, 2, tok(api.TokSymbol, "", 0))
	wantLex(t, "a|b|c", api.OK, 5, tok(api.TokSymbol, "a", 0), tok(api.TokSymbol, "b", 1), tok(api.TokSymbol, "c", 4))
}

// Of what is wrong within bars, the byte that no script has is told first, then the end, then the \.
func TestP51FaultsWithinBars(t *testing.T) {
	for _, s := range []string{`|\|`, `|a\|`, `|\a|`, `|\\|`, "|a\\b\nc|", `|\|x|`, `|\| "`, "|\\|\x00"} {
		wantWrong(t, s, api.ErrForm)
	}
	for _, s := range []string{"|", `|\`, `|a\b`, "|a b\n", `|"|`[:2]} {
		wantWrong(t, s, api.ErrEnd)
	}
	wantLex(t, "|a\x00b|", api.ErrByte, 2)
	wantLex(t, "|a\x00b", api.ErrByte, 2)
	wantLex(t, "x |\\a\x80b|", api.ErrByte, 5, tok(api.TokSymbol, "x", 0))
	wantLex(t, "x |a\x7f\\b|", api.ErrByte, 4, tok(api.TokSymbol, "x", 0))
	wantLex(t, "|\\a\x1f", api.ErrByte, 3)
	wantLex(t, "|\x0b\\", api.ErrByte, 1)
	wantLex(t, "|a\x01\x02\x03", api.ErrByte, 2)
	wantLex(t, "|a|\x01", api.ErrByte, 3, tok(api.TokSymbol, "a", 0))
}

func TestP51Numerals(t *testing.T) {
	for _, s := range []string{"0", "1", "9", "10", "1234567890", "100", strings.Repeat("9", 500)} {
		wantOne(t, s, api.TokNumeral, s)
	}
	for _, s := range []string{"00", "007", "01", "0000", "09", "000", "1a", "0x1", "0a", "1-", "2+2", "1_0", "5e3", "0-0", "1~", "9Z"} {
		wantWrong(t, s, api.ErrForm)
	}
}

func TestP51Decimals(t *testing.T) {
	for _, s := range []string{"0.0", "0.00", "1.5", "12.340", "10.01", "0.000007", "3.14159265"} {
		wantOne(t, s, api.TokDecimal, s)
	}
	for _, s := range []string{"1.", "0.", "00.5", "01.5", "1..5", "1.5.", "1.5.6", "0..", "1.a", "1.5a", "1.-5", "1a.5", "00.", "1._", "1.5_", "1-.5"} {
		wantWrong(t, s, api.ErrForm)
	}
	// Without digits ahead of the point, it is a name.
	wantOne(t, ".5", api.TokSymbol, ".5")
	wantOne(t, "..", api.TokSymbol, "..")
}

func TestP51Literals(t *testing.T) {
	for s, text := range map[string]string{
		`""`: "", `"a"`: "a", `" "`: " ", `"a b"`: "a b", `""""`: `"`, `"""a"`: `"a`, `"a"""`: `a"`, `"""""" `[:6]: `""`,
		`"a""b"`: `a"b`, `"a""""b"`: `a""b`, `"\"`: `\`, `"\u{62}\n"`: `\u{62}\n`, `";|()"`: ";|()", "\"\n\r\t\"": "\n\r\t", `"',[]{}` + "`\"": "',[]{}`",
	} {
		wantOne(t, s, api.TokString, text)
	}
	for _, s := range []string{`"`, `"a`, `"""`, `"""""`, `"a""`, `"a""b`, `"a b)`, "\"\n", `"\`, `"|`} {
		wantWrong(t, s, api.ErrEnd)
	}
	wantLex(t, `"a" "b"`, api.OK, 7, tok(api.TokString, "a", 0), tok(api.TokString, "b", 4))
	wantLex(t, `x"a"y`, api.OK, 5, tok(api.TokSymbol, "x", 0), tok(api.TokString, "a", 1), tok(api.TokSymbol, "y", 4))
	wantLex(t, "\"a\x00\"", api.ErrByte, 2)
	wantLex(t, "\"a\x00", api.ErrByte, 2)
	wantLex(t, "\"a\"\"b\xff\x00\"", api.ErrByte, 5)
	wantLex(t, "x \"a\"\"\x7f", api.ErrByte, 6, tok(api.TokSymbol, "x", 0))
	wantLex(t, "\"a\"\x7f", api.ErrByte, 3, tok(api.TokString, "a", 0))
}

func TestP51Keywords(t *testing.T) {
	for _, s := range []string{":a", ":named", ":0", ":007", ":-", ":.", ":~!@$%^&*_-+=<>.?/", ":1a"} {
		wantOne(t, s, api.TokKeyword, s)
	}
	for _, s := range []string{":", ": a", "::a", ":|a|", `:"a"`, ":(", ":)", ":;", ":#b1", ":\x00", ":\\", ":'", ":\n"} {
		wantWrong(t, s, api.ErrForm)
	}
	wantLex(t, ":a:b", api.OK, 4, tok(api.TokKeyword, ":a", 0), tok(api.TokKeyword, ":b", 2))
	wantLex(t, ":a:", api.ErrForm, 2, tok(api.TokKeyword, ":a", 0))
}

func TestP51Others(t *testing.T) {
	for _, s := range []string{"#b0", "#b1", "#b0110", "#x0", "#x00", "#x0123456789abcdef", "#xABCDEF", "#xaB"} {
		wantOne(t, s, api.TokOther, s)
	}
	for _, s := range []string{
		"#", "# x1", "#x", "#b", "#xg", "#xG", "#x1g", "#x1.", "#b2", "#b12", "#b1a", "#X1", "#B1", "#1", "#a", "#o7", "#x x1", "#b b1",
		"##x1", "#|x1|", "#x|1|", "#(", "#x(", "#b)", "#\x00", "#x\x00", "#b\\", "#'", "#;", "#:",
	} {
		wantWrong(t, s, api.ErrForm)
	}
	wantLex(t, "#x1#b1", api.OK, 6, tok(api.TokOther, "#x1", 0), tok(api.TokOther, "#b1", 3))
	wantLex(t, "#b1#", api.ErrForm, 3, tok(api.TokOther, "#b1", 0))
}

func TestP51TokensWithoutBlanksBetween(t *testing.T) {
	wantLex(t, `(x:y|z|"w"#b1 7)8`, api.OK, 17, tok(api.TokOpen, "(", 0), tok(api.TokSymbol, "x", 1), tok(api.TokKeyword, ":y", 2),
		tok(api.TokSymbol, "z", 4), tok(api.TokString, "w", 7), tok(api.TokOther, "#b1", 10), tok(api.TokNumeral, "7", 14),
		tok(api.TokClose, ")", 15), tok(api.TokNumeral, "8", 16))
	wantLex(t, `7"a"1.5(0)`, api.OK, 10, tok(api.TokNumeral, "7", 0), tok(api.TokString, "a", 1), tok(api.TokDecimal, "1.5", 4),
		tok(api.TokOpen, "(", 7), tok(api.TokNumeral, "0", 8), tok(api.TokClose, ")", 9))
}

// The kinds of bytes, told once more: as texts.
const (
	blanks  = "\t\n\r "
	letters = "abcdefghijklmnopqrstuvwxyzABCDEFGHIJKLMNOPQRSTUVWXYZ"
	digits  = "0123456789"
	signs   = "~!@$%^&*_-+=<>.?/"
	names   = letters + digits + signs
	nowhere = "',[]{}\\`"
)

// has tells whether a byte is one of s.
func has(s string, b byte) bool { return strings.IndexByte(s, b) >= 0 }

// isForeign tells whether a byte is one that no script has.
func isForeign(b byte) bool { return (b < 33 || b > 126) && !has(blanks, b) }

func TestP51EachByteWhereATokenWouldBegin(t *testing.T) {
	for i := range 256 {
		b := byte(i)
		s := string([]byte{b})
		switch {
		case isForeign(b) || has(nowhere, b):
			wantWrong(t, s, api.ErrByte)
		case has(blanks, b) || b == ';':
			wantLex(t, s, api.OK, 1)
		case b == '(' || b == ')':
			wantLex(t, s, api.OK, 1, tok(map[byte]int{'(': api.TokOpen, ')': api.TokClose}[b], s, 0))
		case has(digits, b):
			wantOne(t, s, api.TokNumeral, s)
		case has(names, b):
			wantOne(t, s, api.TokSymbol, s)
		case b == '|' || b == '"':
			wantWrong(t, s, api.ErrEnd)
		default:
			wantWrong(t, s, api.ErrForm)
		}
	}
}

func TestP51EachByteWithin(t *testing.T) {
	for i := range 256 {
		b := byte(i)
		s := string([]byte{b})
		if isForeign(b) {
			wantLex(t, "x;a"+s+"b\ny", api.ErrByte, 3, tok(api.TokSymbol, "x", 0))
			wantLex(t, "x;a"+s, api.ErrByte, 3, tok(api.TokSymbol, "x", 0))
			wantLex(t, `"a`+s+`b"`, api.ErrByte, 2)
			wantLex(t, `|a`+s+`b|`, api.ErrByte, 2)
			continue
		}
		if b != '\n' {
			wantLex(t, "x;a"+s+"b\ny", api.OK, 7, tok(api.TokSymbol, "x", 0), tok(api.TokSymbol, "y", 6))
		}
		if b != '"' {
			wantOne(t, `"a`+s+`b"`, api.TokString, "a"+s+"b")
		}
		if b != '|' && b != '\\' {
			wantOne(t, `|a`+s+`b|`, api.TokSymbol, "a"+s+"b")
		}
	}
}

// behind is what Lex answers of a token and a byte that is none of its bytes behind it.
func behind(t *testing.T, first api.Token, b byte) {
	t.Helper()
	s, n := first.Text+string([]byte{b}), len(first.Text)
	switch {
	case isForeign(b) || has(nowhere, b):
		wantLex(t, s, api.ErrByte, n, first)
	case has(blanks, b) || b == ';':
		wantLex(t, s, api.OK, n+1, first)
	case b == '(':
		wantLex(t, s, api.OK, n+1, first, tok(api.TokOpen, "(", n))
	case b == ')':
		wantLex(t, s, api.OK, n+1, first, tok(api.TokClose, ")", n))
	case b == '|' || b == '"':
		wantLex(t, s, api.ErrEnd, n, first)
	default:
		wantLex(t, s, api.ErrForm, n, first)
	}
}

func TestP51EachByteBehind(t *testing.T) {
	for i := range 256 {
		b := byte(i)
		s := string([]byte{b})
		if has(names, b) {
			wantOne(t, "x"+s, api.TokSymbol, "x"+s)
			wantOne(t, ":"+s, api.TokKeyword, ":"+s)
			wantWrong(t, "#"+s, api.ErrForm)
		} else {
			behind(t, tok(api.TokSymbol, "x", 0), b)
			behind(t, tok(api.TokKeyword, ":x", 0), b)
			behind(t, tok(api.TokOther, "#b1", 0), b)
			behind(t, tok(api.TokNumeral, "7", 0), b)
			wantWrong(t, ":"+s, api.ErrForm)
			wantWrong(t, "#"+s, api.ErrForm)
		}
		wantEachBehindDigits(t, b)
	}
}

// wantEachBehindDigits complains if a byte behind a digit, #x or #b is read otherwise.
func wantEachBehindDigits(t *testing.T, b byte) {
	t.Helper()
	s := string([]byte{b})
	if has(digits, b) {
		wantOne(t, "7"+s, api.TokNumeral, "7"+s)
		wantOne(t, "7.5"+s, api.TokDecimal, "7.5"+s)
	} else if has(names, b) {
		wantWrong(t, "7"+s, api.ErrForm)
		wantWrong(t, "7.5"+s, api.ErrForm)
	}
	if has(digits+"abcdefABCDEF", b) {
		wantOne(t, "#x"+s, api.TokOther, "#x"+s)
	} else {
		wantWrong(t, "#x"+s, api.ErrForm)
	}
	if b == '0' || b == '1' {
		wantOne(t, "#b"+s, api.TokOther, "#b"+s)
	} else {
		wantWrong(t, "#b"+s, api.ErrForm)
	}
}
