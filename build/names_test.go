package build_test

import (
	"math"
	"slices"
	"strings"
	"sync"
	"testing"

	"gudgeon/api"
	"gudgeon/build"
)

// oddKinds is what is neither a name, nor a numeral, nor a literal.
func oddKinds() []int {
	return []int{
		api.TokOpen, api.TokClose, api.TokDecimal, api.TokKeyword, api.TokOther,
		0, -1, -api.TokSymbol, api.TokOther + 1, 100, 256 + api.TokSymbol, 1<<32 + api.TokSymbol, 1<<32 + api.TokNumeral, math.MinInt, math.MinInt + 1, math.MaxInt - 1, math.MaxInt,
	}
}

func wantSort(t *testing.T, x api.Sexp, want int, wrong api.Errno) {
	t.Helper()
	if sort, e := build.Sort(x); sort != want || e != wrong {
		t.Errorf("%s: %d with error %d, not %d with %d", shown(x), sort, e, want, wrong)
	}
}

func TestP101Sort(t *testing.T) {
	for text, want := range map[string]int{"Bool": api.SortBool, "Int": api.SortInt, "String": api.SortStr} {
		wantSort(t, read(t, text), want, api.OK)
		wantSort(t, read(t, " |"+text+"| ; in bars"), want, api.OK)
		x := sym(text)
		x.At, x.Tok.At = math.MinInt, math.MaxInt
		wantSort(t, x, want, api.OK)
		for _, kind := range append(oddKinds(), api.TokNumeral, api.TokString) {
			wantSort(t, atom(kind, text), 0, api.ErrOp)
		}
		for _, other := range []string{strings.ToLower(text), strings.ToUpper(text), text + "s", text + " ", " " + text, text[1:], text[:len(text)-1], "|" + text + "|"} {
			wantSort(t, sym(other), 0, api.ErrOp)
		}
		wantSort(t, list(sym(text)), 0, api.ErrOp)
		wantSort(t, list(sym(text), sym(text)), 0, api.ErrOp)
		wantSort(t, list(list(sym(text))), 0, api.ErrOp)
		// A list is one, whatever its token might say.
		wantSort(t, api.Sexp{List: true, Tok: api.Token{Kind: api.TokSymbol, Text: text}}, 0, api.ErrOp)
	}
}

func TestP101NoSorts(t *testing.T) {
	for _, text := range []string{"Real", "RegLan", "x", "true", "Str", "Integer", "Boolean", "()", "(_ BitVec 8)", "(Array Int Int)", "1", `"Int"`, ":Int", "#b1", "1.0", "||"} {
		wantSort(t, read(t, text), 0, api.ErrOp)
	}
	wantSort(t, api.Sexp{}, 0, api.ErrOp)
	wantSort(t, api.Sexp{List: true}, 0, api.ErrOp)
	for _, kind := range append(oddKinds(), api.TokSymbol, api.TokNumeral, api.TokString) {
		wantSort(t, atom(kind, ""), 0, api.ErrOp)
	}
}

// allReserved is each name of the chapter that is reserved by itself.
var allReserved = sync.OnceValue(func() []string {
	l := strings.Fields("true false let forall exists match par ! _ as div mod abs")
	for _, name := range opNames() {
		if !slices.Contains(l, name) {
			l = append(l, name)
		}
	}
	return slices.Clip(l)
})

func wantReserved(t *testing.T, name string, want bool) {
	t.Helper()
	if got := build.Reserved(name); got != want {
		t.Errorf("%q: %v", short(name), got)
	}
}

func TestP101Reserved(t *testing.T) {
	l := allReserved()
	if len(l) != 13+24 {
		t.Fatalf("%d names", len(l))
	}
	for _, name := range l {
		wantReserved(t, name, true)
		// One byte less, one more, and other cases.
		for _, near := range []string{
			name[1:], name[:len(name)-1], name + "x", "x" + name, name + " ", " " + name, name + name, name + ".", name + "\x00", "|" + name + "|",
			strings.ToUpper(name), strings.ToUpper(name[:1]) + name[1:], name[:1] + strings.ToUpper(name[1:]),
		} {
			wantReserved(t, near, reserved(near))
		}
	}
}

func TestP101ReservedBeginnings(t *testing.T) {
	for _, name := range []string{"str.", "re.", "str.x", "re.x", "str..", "re..", "str.in_re", "re.all", "re.+", "str.to_int", "str.++x", "str. a", "re.\xff", "str." + strings.Repeat("x", 20000)} {
		wantReserved(t, name, true)
	}
	for _, name := range []string{
		"", "s", "st", "str", "r", "re", ".", "str,", "re,", "str-x", "strx", "rex", "re x", "Str.x", "STR.x", "Re.x", "RE.", "sTr.", "xstr.x", "xre.x", " str.x", " re.",
		"tr.x", "e.x", ".str.", "r.e.", "st.r.", "|str.x|", "ite2", "str_len", "x", "notx", strings.Repeat("x", 20000) + "str.",
	} {
		wantReserved(t, name, false)
	}
}

func TestP101ReservedShortNames(t *testing.T) {
	wanted := map[string]bool{}
	for _, name := range allReserved() {
		wanted[name] = true
	}
	for i := range 256 {
		wantReserved(t, string([]byte{byte(i)}), wanted[string([]byte{byte(i)})])
		for j := range 256 {
			name := string([]byte{byte(i), byte(j)})
			wantReserved(t, name, wanted[name])
		}
	}
}
