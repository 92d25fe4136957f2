package lit_test

import (
	"fmt"
	"slices"
	"strings"
	"testing"

	"gudgeon/lit"
)

// bytesOf is a literal's bytes, each as a number.
func bytesOf(s string) []int {
	var l []int
	for i := range len(s) {
		l = append(l, int(s[i]))
	}
	return l
}

// first is no more of a list than can be read at a glance.
func first[T any](l []T) []T { return l[:min(len(l), 12)] }

// wantPoints complains if Points answers otherwise.
func wantPoints(t *testing.T, s string, want ...int) {
	t.Helper()
	if got := lit.Points(s); !slices.Equal(got, want) {
		t.Errorf("Points(%.60q): the %d %v, not the %d %v", s, len(got), first(got), len(want), first(want))
	}
}

// wantEscape complains if s isn't one code point, by itself and among others.
func wantEscape(t *testing.T, s string, c int) {
	t.Helper()
	wantPoints(t, s, c)
	wantPoints(t, s+s+s, c, c, c)
	wantPoints(t, "a"+s+"b", 'a', c, 'b')
	wantPoints(t, `\`+s+`}`, '\\', c, '}')
	wantPoints(t, `\u`+s+`0`, '\\', 'u', c, '0')
	wantPoints(t, `\u{`+s+`62}`, '\\', 'u', '{', c, '6', '2', '}')
	wantPoints(t, `\u{6`+s+`\u`, '\\', 'u', '{', '6', c, '\\', 'u')
	wantPoints(t, `\u006`+s+`\`, '\\', 'u', '0', '0', '6', c, '\\')
}

// wantBytes complains if s says anything but its bytes, by itself and among others.
func wantBytes(t *testing.T, s string) {
	t.Helper()
	wantPoints(t, s, bytesOf(s)...)
	wantPoints(t, s+" "+s, bytesOf(s+" "+s)...)
	wantPoints(t, `\u{62}`+s, append([]int{98}, bytesOf(s)...)...)
	wantPoints(t, s+`\u{62}`, append(bytesOf(s), 98)...)
	wantPoints(t, s+`\u0062}`, append(bytesOf(s), 98, '}')...)
}

func TestP71Examples(t *testing.T) {
	wantPoints(t, `a\u{62}\u0063\ux`, 97, 98, 99, 92, 117, 120)
	wantPoints(t, `\u{62}`, 'b')
	wantPoints(t, `\u0062`, 'b')
	wantPoints(t, `\u{30000}`, '\\', 'u', '{', '3', '0', '0', '0', '0', '}')
}

func TestP71Empty(t *testing.T) {
	if l := lit.Points(""); len(l) != 0 {
		t.Errorf("%v", l)
	}
}

func TestP71EveryByte(t *testing.T) {
	var all strings.Builder
	for c := range 256 {
		b := string([]byte{byte(c)})
		wantPoints(t, b, c)
		wantPoints(t, b+b+"x", c, c, 'x')
		wantPoints(t, `\`+b, '\\', c)
		wantPoints(t, `\u{61}`+b, 'a', c)
		wantPoints(t, b+`\u{61}`, c, 'a')
		all.WriteString(b)
	}
	wantPoints(t, all.String(), bytesOf(all.String())...)
	// What takes several bytes in UTF-8 is several code points.
	wantPoints(t, "é€", 0xc3, 0xa9, 0xe2, 0x82, 0xac)
}

// Every byte in the place of each byte of an escape, and ahead of each.
func TestP71EveryByteWithin(t *testing.T) {
	for c := range 256 {
		b := string([]byte{byte(c)})
		for _, s := range []string{`\u0062`, `\u{6}`, `\u{062}`, `\u{20062}`, `\u{2ffff}`} {
			for i := range len(s) {
				other, more := s[:i]+b+s[i+1:], s[:i]+b+s[i:]
				wantPoints(t, other, plain(other)...)
				wantPoints(t, more, plain(more)...)
			}
		}
	}
}

func TestP71Braces(t *testing.T) {
	for s, c := range map[string]int{
		"0": 0, "7": 7, "a": 10, "F": 15, "00": 0, "62": 98, "0a": 10, "fF": 255, "000": 0, "062": 98, "abc": 0xabc, "0000": 0, "0062": 98, "FFFF": 0xffff,
		"00000": 0, "00062": 98, "10000": 65536, "1ffff": 131071, "20000": 131072, "2fffe": 196606, "2ffff": 196607, "2FFFF": 196607, "2fFfF": 196607, "0ffff": 65535,
	} {
		wantEscape(t, `\u{`+s+`}`, c)
	}
}

func TestP71BracesThatAreNone(t *testing.T) {
	for _, s := range []string{
		"", "30000", "30001", "3ffff", "40000", "fffff", "FFFFF", "99999",
		"000000", "000062", "02ffff", "100000", "2ffff0", "0000062", "00000000000000000062",
		"g", "G", "g0", "0g", "0g0", "6g2", "62g", "g0062", "0g062", "00g62", "006g2", "0062g", "+62", "-62", "+", "-", "-0", "6-2", "0x62", "x62", "0X1", "6_2", "_62", "62_", "6.2", "62.", "6e1h", " 62", "62 ", " ", "6 2",
		"{62", "{", "\x00", "\x0062", "٢", "６２", "62\n", "62h",
	} {
		wantBytes(t, `\u{`+s+`}`)
	}
}

func TestP71FourDigits(t *testing.T) {
	for s, c := range map[string]int{
		"0000": 0, "0001": 1, "0062": 98, "00e9": 233, "00E9": 233, "abcd": 0xabcd, "ABCD": 0xabcd, "aBcD": 0xabcd, "efEF": 0xefef, "1234": 0x1234, "5678": 0x5678, "9000": 0x9000, "ffff": 0xffff, "FFFF": 0xffff, "d800": 0xd800,
	} {
		wantEscape(t, `\u`+s, c)
	}
}

// No more than four digits are taken, nor a brace behind them.
func TestP71MoreThanFourDigits(t *testing.T) {
	wantPoints(t, `\u00620`, 'b', '0')
	wantPoints(t, `\u0062f`, 'b', 'f')
	wantPoints(t, `\u2ffff`, 0x2fff, 'f')
	wantPoints(t, `\u00000062`, 0, '0', '0', '6', '2')
	wantPoints(t, `\u0062}`, 'b', '}')
	wantPoints(t, `\u0062{61}`, 'b', '{', '6', '1', '}')
}

func TestP71FourDigitsThatAreNone(t *testing.T) {
	for _, s := range []string{
		"", "0", "00", "006", "g062", "0g62", "00g2", "006g", "G000", "+062", "-062", "0+62", "006-", "0x62", "x062", "0_62", "_062", "006_", " 062", "006 ", "00.2",
		"0{62", "00{6", "006{", "{006", "{0062", "006}", "00}2", "0}62", "}062", "}", "{", "6{2}", "\x00062", "006\xff", "é62",
	} {
		wantBytes(t, `\u`+s)
	}
}

// What ends ahead of its end is no escape.
func TestP71EndsWithin(t *testing.T) {
	for _, whole := range []string{`\u0062`, `\u{6}`, `\u{62}`, `\u{00062}`, `\u{2ffff}`, `\u{2FFFF}`, `\uFFFF`} {
		for n := range len(whole) {
			wantPoints(t, whole[:n], bytesOf(whole[:n])...)
			wantPoints(t, whole+whole[:n], append(lit.Points(whole), bytesOf(whole[:n])...)...)
			wantPoints(t, `\`+whole[:n], append([]int{'\\'}, bytesOf(whole[:n])...)...)
		}
	}
}

func TestP71OtherLettersBeginNone(t *testing.T) {
	for _, s := range []string{`\U0062`, `\U{62}`, `\x62`, `\x0062`, `\n`, `\t`, `\"`, `\0062`, `\{62}`, `\`, `u0062`, `u{62}`, `/u0062`, `\ u0062`, `\u 0062`, `\u {62}`, `&#98;`, `%62`, `""`, `"`} {
		wantBytes(t, s)
	}
	wantPoints(t, `\\`, '\\', '\\')
	wantPoints(t, `\\u{62}`, '\\', 'b')
	wantPoints(t, `\\\u0062`, '\\', '\\', 'b')
	wantPoints(t, `\u\u0062`, '\\', 'u', 'b')
	wantPoints(t, `\u{\u{62}`, '\\', 'u', '{', 'b')
	wantPoints(t, `\u{6\u{62}}`, '\\', 'u', '{', '6', 'b', '}')
	wantPoints(t, `\u00\u0062`, '\\', 'u', '0', '0', 'b')
}

// What an escape says begins no other one.
func TestP71WhatIsSaidIsNotReadAgain(t *testing.T) {
	wantPoints(t, `\u{5c}u{62}`, '\\', 'u', '{', '6', '2', '}')
	wantPoints(t, `\u005cu0062`, '\\', 'u', '0', '0', '6', '2')
	wantPoints(t, `\\u{75}{62}`, '\\', 'u', '{', '6', '2', '}')
	wantPoints(t, `\u\u{7b}62}`, '\\', 'u', '{', '6', '2', '}')
	wantPoints(t, `\u{62\u{7d}`, '\\', 'u', '{', '6', '2', '}')
}

// All numbers in all ways in which they may be written, and those above that may not.
func TestP71AllNumbers(t *testing.T) {
	for c := range 0x100000 {
		var s, want = fmt.Sprintf(`\u{%x}`, c), []int{c}
		if c > 196607 {
			want = bytesOf(s)
		}
		wantPoints(t, s, want...)
		if c%7 != 0 {
			continue // Each way of some of them is enough.
		}
		for _, way := range []string{`\u{%X}`, `\u{%02x}`, `\u{%03x}`, `\u{%04X}`, `\u{%05x}`} {
			s = fmt.Sprintf(way, c)
			if c > 196607 {
				want = bytesOf(s)
			}
			wantPoints(t, s, want...)
		}
	}
	for c := range 0x10000 {
		wantPoints(t, fmt.Sprintf(`\u%04x`, c), c)
		wantPoints(t, fmt.Sprintf(`\u%04X`, c), c)
	}
}

func TestP71Long(t *testing.T) {
	n := 100000
	for s, want := range map[string][]int{"a": {'a'}, `\`: {'\\'}, `\u`: {'\\', 'u'}, `\u{`: {'\\', 'u', '{'}, `\u{62`: bytesOf(`\u{62`), `\u{2ffff}`: {196607}, `\u00e9`: {233}, `\u{000000}`: bytesOf(`\u{000000}`)} {
		wantPoints(t, strings.Repeat(s, n), slices.Repeat(want, n)...)
	}
	wantPoints(t, `\u{`+strings.Repeat("0", n)+"}", bytesOf(`\u{`+strings.Repeat("0", n)+"}")...)
}
