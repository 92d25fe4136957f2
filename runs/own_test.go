package runs_test

import (
	"slices"
	"testing"

	"gudgeon/api"
	"gudgeon/runs"
)

// behind is what stands behind the end of a text that has room there.
var behind = run(120, 5)

// spare is a text with room behind its end, in which something stands.
func spare(s []api.Run) []api.Run { return append(slices.Clone(s), behind, behind, behind)[:len(s)] }

// wantKept complains if a text, or what stands behind its end, is other than it was.
func wantKept(t *testing.T, what string, s, kept []api.Run) {
	t.Helper()
	room := s[:len(s)+3][len(s):]
	if !slices.Equal(s, kept) || !slices.Equal(room, []api.Run{behind, behind, behind}) {
		t.Errorf("%s: %v behind %v, which was %v", what, room, some(s), some(kept))
	}
}

// spoil changes all of a text, and all of the room behind it.
func spoil(l []api.Run) {
	l = append(l, run(-5, -5), run(-5, -5))
	l = l[:cap(l)]
	for i := range l {
		l[i] = run(-5, -5)
	}
}

// calls is all that answers a text of three.
func calls() map[string]func(s, u, v []api.Run) []api.Run {
	return map[string]func(s, u, v []api.Run) []api.Run{
		"Concat":          func(s, u, v []api.Run) []api.Run { l, _ := runs.Concat(s, u); return l },
		"Concat, nothing": func(s, u, v []api.Run) []api.Run { l, _ := runs.Concat(s, nil); return l },
		"nothing, Concat": func(s, u, v []api.Run) []api.Run { l, _ := runs.Concat(nil, s); return l },
		"Concat, itself":  func(s, u, v []api.Run) []api.Run { l, _ := runs.Concat(s, s); return l },
		"Substr":          func(s, u, v []api.Run) []api.Run { return runs.Substr(s, 1, 3) },
		"Substr, all":     func(s, u, v []api.Run) []api.Run { return runs.Substr(s, 0, 1<<50) },
		"At":              func(s, u, v []api.Run) []api.Run { return runs.At(s, 1) },
		"Replace":         func(s, u, v []api.Run) []api.Run { l, _ := runs.Replace(s, u, v); return l },
		"Replace, none":   func(s, u, v []api.Run) []api.Run { l, _ := runs.Replace(s, text("xyx"), v); return l },
		"Replace, all":    func(s, u, v []api.Run) []api.Run { l, _ := runs.Replace(s, s, v); return l },
		"Replace, itself": func(s, u, v []api.Run) []api.Run { l, _ := runs.Replace(s, u, u); return l },
		"Replace nothing": func(s, u, v []api.Run) []api.Run { l, _ := runs.Replace(s, nil, v); return l },
		"Replace by none": func(s, u, v []api.Run) []api.Run { l, _ := runs.Replace(s, nil, nil); return l },
		"nothing by it":   func(s, u, v []api.Run) []api.Run { l, _ := runs.Replace(nil, nil, s); return l },
	}
}

// ownTexts is what those calls are made with.
func ownTexts() [][3][]api.Run {
	return [][3][]api.Run{
		{text("aabba"), text("bb"), text("a")}, {text("aab"), text("b"), text("ab")}, {text("aab"), text("ba"), text("c")}, {text("aaa"), text("a"), text("b")}, {text("abcabc"), text("ca"), nil}, {{}, {}, {}}, {text("ab"), {}, text("b")},
	}
}

// What is handed in stays as it was, whatever is answered.
func TestR3WhatIsHandedIn(t *testing.T) {
	wrong := [3][]api.Run{{run(97, 1), run(97, 1)}, {run(98, 0)}, {run(-1, 1)}}
	for _, l := range append(ownTexts(), wrong, [3][]api.Run{zigzag(65536, 1), text("b"), text("xy")}) {
		s, u, v := spare(l[0]), spare(l[1]), spare(l[2])
		all := calls()
		all["the others"] = func(s, u, v []api.Run) []api.Run {
			runs.May(s)
			runs.Len(s)
			runs.Same(s, u)
			runs.Prefix(u, s)
			runs.Suffix(u, s)
			runs.Index(s, u, 1)
			runs.Contains(s, u)
			return nil
		}
		for what, f := range all {
			f(s, u, v)
			wantKept(t, what, s, l[0])
			wantKept(t, what, u, l[1])
			wantKept(t, what, v, l[2])
		}
	}
}

// Who changes one text that was answered changes no other one, nor what was handed in.
func TestR3TextsAreTheCallersOwn(t *testing.T) {
	for _, l := range ownTexts() {
		for what, f := range calls() {
			s, u, v := spare(l[0]), spare(l[1]), spare(l[2])
			a, b := f(s, u, v), f(s, u, v)
			want := slices.Clone(b)
			spoil(a)
			wantText(t, what, b, want)
			wantText(t, what, f(s, u, v), want)
			wantKept(t, what, s, l[0])
			wantKept(t, what, u, l[1])
			wantKept(t, what, v, l[2])
			// And who changes what was handed in changes nothing of what was answered.
			spoil(s)
			spoil(u)
			spoil(v)
			wantText(t, what, b, want)
		}
	}
}

// The same call answers the same, whatever was asked ahead.
func TestR5TheSameAnswers(t *testing.T) {
	s := text("aaab")
	for range 20 {
		wantNoConcat(t, s, []api.Run{{}}, api.ErrArg)
		wantNoReplace(t, zigzag(65536, 1), text("b"), text("de"), api.ErrLong)
		wantIndex(t, zigzag(65536, 1), s, 0, -1)
		wantMay(t, s, 4)
		wantSubstr(t, s, 1, 2, text("aa"))
		wantIndex(t, s, text("ab"), 0, 2)
		wantReplace(t, s, text("a"), text("c"), text("caab"))
		wantIndex(t, s, nil, 4, 4)
		wantIndex(t, s, nil, 5, -1)
	}
}
