package lex_test

import (
	"math/rand"
	"regexp"
	"strings"
	"testing"

	"gudgeon/api"
	"gudgeon/lex"
)

// form is a form of what stands in a script (a token's is the part in brackets), and what it is: a token's kind, or an error, or neither.
type form struct {
	kind int
	e    api.Errno
	re   *regexp.Regexp
}

// plain tells the tokens of a script anew: by forms, of which the first one that fits is taken.
type plain []form

func newPlain() plain {
	var p plain
	add := func(kind int, e api.Errno, re string) {
		p = append(p, form{kind, e, regexp.MustCompile(`(?s)\A(?:` + re + `)`)})
	}
	const ok, name, apart = `\t\n\r -~`, `[a-zA-Z0-9~!@$%^&*_+=<>.?/\-]`, `(?:[^a-zA-Z0-9~!@$%^&*_+=<>.?/\-]|\z)`
	add(0, api.OK, `[\t\n\r ]+|;[\t\r -~]*(?:\n|\z)`)
	add(0, api.ErrByte, `;[\t\r -~]*[^`+ok+`]`)
	add(0, api.ErrByte, `"(?:[\t\n\r !#-~]|"")*(?:"")?[^`+ok+`]`)
	add(0, api.ErrByte, `\|[\t\n\r -{}~]*[^`+ok+`]`)
	add(api.TokString, api.OK, `("(?:[^"]|"")*")(?:[^"]|\z)`)
	add(api.TokSymbol, api.OK, `(\|[^|\\]*\|)`)
	add(0, api.ErrForm, `\|[^|]*\|`)
	add(0, api.ErrEnd, `["|]`)
	add(api.TokOpen, api.OK, `(\()`)
	add(api.TokClose, api.OK, `(\))`)
	add(api.TokNumeral, api.OK, `(0|[1-9][0-9]*)`+apart)
	add(api.TokDecimal, api.OK, `((?:0|[1-9][0-9]*)\.[0-9]+)`+apart)
	add(0, api.ErrForm, `[0-9]`)
	add(api.TokSymbol, api.OK, `(`+name+`+)`)
	add(api.TokKeyword, api.OK, `(:`+name+`+)`)
	add(api.TokOther, api.OK, `(#(?:x[0-9a-fA-F]+|b[01]+))`+apart)
	add(0, api.ErrForm, `[:#]`)
	add(0, api.ErrByte, `.`)
	return p
}

// wide is a script whose bytes are code points, so that a form's point is one byte.
func wide(s string) string {
	var b strings.Builder
	for i := range len(s) {
		b.WriteRune(rune(s[i]))
	}
	return b.String()
}

// lex is the tokens of a short script, what is wrong with it, and where.
func (p plain) lex(s string) ([]api.Token, api.Errno, int) {
	var l []api.Token
	for at := 0; at < len(s); {
		for _, f := range p {
			fit := f.re.FindStringSubmatch(wide(s[at:]))
			if fit == nil {
				continue
			}
			n := len([]rune(fit[len(fit)-1]))
			if f.e == api.ErrByte {
				return l, f.e, at + n - 1
			} else if f.e != api.OK {
				return l, f.e, at
			} else if f.kind != 0 {
				l = append(l, tok(f.kind, said(f.kind, s[at:at+n]), at))
			}
			at += n
			break
		}
	}
	return l, api.OK, len(s)
}

// said is what a token says that is written so.
func said(kind int, s string) string {
	if kind == api.TokString {
		return strings.ReplaceAll(s[1:len(s)-1], `""`, `"`)
	}
	if kind == api.TokSymbol && s[0] == '|' {
		return s[1 : len(s)-1]
	}
	return s
}

// anyScript is one of pieces that are told, and of bytes.
func anyScript(r *rand.Rand, most int) string {
	pieces := []string{
		"(", ")", "x", "str.++", "|", `\`, `"`, `""`, "a", "b", "0", "1", "7", ".", ":", "#", "#x", "#b", " ", "\n", "\r", "\t", ";", "|a b|", `"a""b"`, "1.5", "-", "'", "\x00", "\x7f", "\xc3\xa4", "F", "g",
	}
	var b strings.Builder
	for range r.Intn(most) {
		switch r.Intn(40) {
		case 0:
			b.WriteByte(byte(r.Intn(256)))
		case 1:
			b.WriteByte(byte(33 + r.Intn(94)))
		default:
			b.WriteString(pieces[r.Intn(len(pieces)-4*r.Intn(2))])
		}
	}
	return b.String()
}

func TestP51AnyScripts(t *testing.T) {
	r, p := rand.New(rand.NewSource(5)), newPlain()
	for i := range 40000 {
		s := anyScript(r, 2+i%20)
		l, e, at := p.lex(s)
		wantLex(t, s, e, at, l...)
		if t.Failed() {
			t.Fatalf("of the script %q", s)
		}
	}
}

func TestP51AllShortScripts(t *testing.T) {
	p := newPlain()
	const bytes = "(|\\\"0.x:#b;\n \x00"
	for i := range len(bytes) * len(bytes) * len(bytes) * len(bytes) {
		s := ""
		for n := i; n > 0; n /= len(bytes) {
			s += string(bytes[n%len(bytes)])
		}
		l, e, at := p.lex(s)
		wantLex(t, s, e, at, l...)
	}
}

// someText is a short text of bytes that fit a kind often.
func someText(r *rand.Rand, kind int) string {
	from := map[int]string{api.TokOpen: "(", api.TokClose: ")", api.TokNumeral: digits, api.TokDecimal: "0123.", api.TokKeyword: names, api.TokOther: "01abcdef"}[kind]
	if from == "" {
		from = names + blanks + `";()#:',[]` + letters
	}
	var b strings.Builder
	b.WriteString(map[int]string{api.TokKeyword: ":", api.TokOther: []string{"#x", "#b"}[r.Intn(2)]}[kind])
	for range r.Intn(6) {
		b.WriteByte(from[r.Intn(len(from))])
	}
	return b.String()
}

// someTokens is tokens that can be shown, and how they are.
func someTokens(r *rand.Rand, n int) ([]api.Token, []string) {
	var l []api.Token
	var texts []string
	for len(l) < n {
		kind := 1 + r.Intn(8)
		x := tok(kind, someText(r, kind), r.Intn(100))
		if text, e := lex.Show(x); e == api.OK {
			l, texts = append(l, x), append(texts, text)
		}
	}
	return l, texts
}

// between is blanks, one at least, and perhaps a remark.
func between(r *rand.Rand) string {
	return []string{" ", "\n", "\t", "\r", "  ", " \n\t\r ", " ;x\n", "\n; (\n "}[r.Intn(8)]
}

func TestP53WhatIsWrittenIsReadBack(t *testing.T) {
	r := rand.New(rand.NewSource(53))
	for range 3000 {
		l, texts := someTokens(r, r.Intn(30))
		s := ""
		for i := range l {
			s += between(r)
			l[i].At = len(s)
			s += texts[i]
		}
		s += []string{"", between(r), " ;"}[r.Intn(3)]
		wantLex(t, s, api.OK, len(s), l...)
	}
	l, texts := someTokens(r, api.MaxTokens)
	l, texts = l[:api.MaxTokens:api.MaxTokens], texts[:api.MaxTokens]
	for len(strings.Join(texts, " ")) > api.MaxScript {
		l, texts = l[1:], texts[1:]
	}
	at := 0
	for i := range l {
		l[i].At = at
		at += len(texts[i]) + 1
	}
	wantLex(t, strings.Join(texts, " "), api.OK, at-1, l...)
}

// What is read of any script at all is written and read back, too.
func TestP53WhatIsReadIsReadBack(t *testing.T) {
	r := rand.New(rand.NewSource(54))
	for range 20000 {
		l, _, _ := lex.Lex(anyScript(r, 25))
		s := ""
		for i, x := range l {
			text, e := lex.Show(x)
			if e != api.OK {
				t.Fatalf("Show(%v): error %d", x, e)
			}
			l[i].At = len(s)
			s += text + " "
		}
		wantLex(t, s, api.OK, len(s), l...)
	}
}
