package lex_test

import (
	"slices"
	"strings"
	"testing"

	"gudgeon/api"
	"gudgeon/lex"
)

// many is a script of so many names, a blank behind each, and its tokens.
func many(n int) (string, []api.Token) {
	l := make([]api.Token, n)
	for i := range l {
		l[i] = tok(api.TokSymbol, "x", 2*i)
	}
	return strings.Repeat("x ", n), l
}

func TestP51ScriptsThatAreTooLong(t *testing.T) {
	for _, s := range []string{"x", " ", ";", "(", "\x00", "'", "0", `"`, "|"} {
		wantLex(t, strings.Repeat(s, api.MaxScript+1), api.ErrLong, 0)
		wantLex(t, strings.Repeat(s, 3*api.MaxScript), api.ErrLong, 0)
	}
	fill := strings.Repeat(" ", api.MaxScript-1)
	wantLex(t, fill+"x", api.OK, api.MaxScript, tok(api.TokSymbol, "x", api.MaxScript-1))
	wantLex(t, fill+"\x00", api.ErrByte, api.MaxScript-1)
	wantLex(t, fill+`"`, api.ErrEnd, api.MaxScript-1)
	wantLex(t, fill+"xy", api.ErrLong, 0)
	wantLex(t, fill+" \x00", api.ErrLong, 0)
	wantLex(t, "x"+fill+"\n", api.ErrLong, 0)
	wantLex(t, `"`+fill[1:]+`"`, api.OK, api.MaxScript, tok(api.TokString, fill[1:], 0))
	wantLex(t, `|`+fill[1:]+`|`, api.OK, api.MaxScript, tok(api.TokSymbol, fill[1:], 0))
}

func TestP51AsManyTokensAsMayBe(t *testing.T) {
	s, l := many(api.MaxTokens)
	for _, tail := range []string{"", " ", "\n\t\r", ";", "; x ( '", ";x\n", " ;x\n ;y\n"} {
		wantLex(t, s+tail, api.OK, len(s)+len(tail), l...)
	}
	wantLex(t, s+";x\x00", api.ErrByte, len(s)+2, l...)
	wantLex(t, strings.Repeat("()", 2000), api.OK, 4000, brackets(2000)...)
	wantLex(t, strings.Repeat("()", 2000)+"(", api.ErrLong, 4000, brackets(2000)...)
}

// brackets is the tokens of so many brackets that open, each with one that closes.
func brackets(n int) []api.Token {
	var l []api.Token
	for i := range n {
		l = append(l, tok(api.TokOpen, "(", 2*i), tok(api.TokClose, ")", 2*i+1))
	}
	return l
}

// A token too many is told ahead of all that is wrong with it.
func TestP51ATokenTooMany(t *testing.T) {
	s, l := many(api.MaxTokens)
	for _, tail := range []string{
		"(", ")", "x", "|x|", "7", "1.5", `"a"`, ":a", "#b1", "|", `|\|`, `|\`, "007", "1.", "1a", `"`, `"a`, ":", "#", "#x", "#b2",
		"'", ",", "[", "]", "{", "}", `\`, "`", "|\x00|", "\"\x00\"", "x\x00", "|\x00", "\"\x00", ":\x00", "#\x00", "x x x", "(;\x00",
	} {
		wantLex(t, s+tail, api.ErrLong, len(s), l...)
		wantLex(t, s+" ;x\n"+tail, api.ErrLong, len(s)+4, l...)
	}
	for i := range 256 {
		if b := byte(i); isForeign(b) {
			wantLex(t, s+string([]byte{b}), api.ErrByte, len(s), l...)
			wantLex(t, s+";x\n "+string([]byte{b, '('}), api.ErrByte, len(s)+4, l...)
		}
	}
}

// What is wrong ahead of it is told, though there are too many tokens.
func TestP51FaultsAheadOfATokenTooMany(t *testing.T) {
	s, l := many(api.MaxTokens - 1)
	wantLex(t, s+"007 x x", api.ErrForm, len(s), l...)
	wantLex(t, s+`x |\| x`, api.ErrLong, len(s)+2, append(slices.Clone(l), tok(api.TokSymbol, "x", len(s)))...)
	wantLex(t, s+"x;\x01\nx", api.ErrByte, len(s)+2, append(slices.Clone(l), tok(api.TokSymbol, "x", len(s)))...)
	wantLex(t, s+"' x x", api.ErrByte, len(s), l...)
	wantLex(t, s+`"x" `, api.OK, len(s)+4, append(slices.Clone(l), tok(api.TokString, "x", len(s)))...)
}

// The tokens that stand ahead of an error are answered with it.
func TestR4TokensAheadOfAnError(t *testing.T) {
	ahead := []api.Token{tok(api.TokOpen, "(", 0), tok(api.TokSymbol, "f", 1), tok(api.TokKeyword, ":k", 3), tok(api.TokOther, "#x1", 6), tok(api.TokDecimal, "0.5", 10)}
	s := "(f :k #x1 0.5 "
	wantLex(t, s+"\x00 y", api.ErrByte, 14, ahead...)
	wantLex(t, s+"] y", api.ErrByte, 14, ahead...)
	wantLex(t, s+`" y`, api.ErrEnd, 14, ahead...)
	wantLex(t, s+`| y`, api.ErrEnd, 14, ahead...)
	wantLex(t, s+`08 y`, api.ErrForm, 14, ahead...)
	wantLex(t, s+`|\| y`, api.ErrForm, 14, ahead...)
	wantLex(t, s+`: y`, api.ErrForm, 14, ahead...)
	wantLex(t, s+`# y`, api.ErrForm, 14, ahead...)
	wantLex(t, s+"; y\x00", api.ErrByte, 17, ahead...)
}

func TestR3AnswersAreTheCallersOwn(t *testing.T) {
	s := `(a "b""c" 7)`
	l, _, _ := lex.Lex(s)
	again, _, _ := lex.Lex(s)
	for i := range l {
		l[i] = api.Token{}
	}
	_ = append(l[:0], tok(9, "z", 9), tok(9, "z", 9))
	wantLex(t, s, api.OK, 12, again...)
	if again[0] != tok(api.TokOpen, "(", 0) || again[4] != tok(api.TokClose, ")", 11) {
		t.Errorf("%v", again)
	}
}
