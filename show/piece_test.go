package show_test

import (
	"math/rand"
	"slices"
	"strconv"
	"strings"
	"testing"

	"gudgeon/api"
	"gudgeon/show"
)

// part is what a piece of a text is to be told by, and by how many atoms and lists.
type part struct {
	text string
	size int
}

// cut is the pieces of a text, told anew: from its beginning on, as many runs as may be.
func cut(s []api.Run) [][]api.Run {
	var all [][]api.Run
	for len(s) > 0 {
		n, points := 0, 0
		for n < len(s) && points+s[n].N <= 1000 {
			points += s[n].N
			n++
		}
		all = append(all, s[:max(n, 1)])
		s = s[max(n, 1):]
	}
	return all
}

// partOf is what a piece is to be told by.
func partOf(s []api.Run) part {
	if s[0].N <= 1000 {
		return part{quoted(s), 1}
	}
	bits := strconv.FormatInt(int64(s[0].N), 2)
	k := len(bits) - 1
	var b strings.Builder
	for i := 0; i <= k; i++ {
		d := "d" + strconv.Itoa(i)
		last := "d" + strconv.Itoa(i-1)
		if i == 0 {
			b.WriteString("(let ((d0 " + quoted([]api.Run{run(s[0].C, 1)}) + ")) ")
			continue
		}
		b.WriteString("(let ((" + d + " (str.++ " + last + " " + last + "))) ")
	}
	var names []string
	for i, bit := range bits {
		if bit == '1' {
			names = append(names, "d"+strconv.Itoa(k-i))
		}
	}
	size := 6 + 9*k + 1
	within := names[0]
	if len(names) > 1 {
		size += 1 + len(names)
		within = "(str.++ " + strings.Join(names, " ") + ")"
	}
	return part{b.String() + within + strings.Repeat(")", k+1), size}
}

// told is what a text is to be told by, by how many atoms and lists, and of how many pieces.
func told(s []api.Run) (text string, size, pieces int) {
	all := cut(s)
	if len(all) == 0 {
		return `""`, 1, 1
	}
	if len(all) == 1 {
		p := partOf(all[0])
		return p.text, p.size, 1
	}
	var b strings.Builder
	size = 2
	for _, p := range all {
		p := partOf(p)
		b.WriteString(" " + p.text)
		size += p.size
	}
	return "(str.++" + b.String() + ")", size, len(all)
}

// wantText complains if a text is told otherwise, or not, though it may be; it answers whether it may be.
func wantText(t *testing.T, s []api.Run) bool {
	t.Helper()
	if !ownForm(s) {
		t.Fatalf("%v may not be", s[:min(len(s), 9)])
	}
	text, size, pieces := told(s)
	if pieces > 200 || size > 2000 {
		wantLong(t, strconv.Itoa(pieces)+" pieces, "+strconv.Itoa(size)+" atoms and lists", textOf(s))
		return false
	}
	wantValue(t, textOf(s), text)
	x, _ := show.Value(textOf(s))
	if n := counted(x); n != size {
		t.Errorf("%s: %d atoms and lists, not %d", some(text), n, size)
	}
	wantIs(t, textOf(s))
	return true
}

func TestP122Examples(t *testing.T) {
	wantValue(t, textOf(lengths(1000, 1)), `(str.++ "`+strings.Repeat("a", 1000)+`" "b")`)
	lets := `(let ((d0 "a")) `
	for k := 1; k < 10; k++ {
		d := "d" + strconv.Itoa(k-1)
		lets += "(let ((d" + strconv.Itoa(k) + " (str.++ " + d + " " + d + "))) "
	}
	wantValue(t, textOf(lengths(1001)), lets+"(str.++ d9 d8 d7 d6 d5 d3 d0)"+strings.Repeat(")", 10))
	wantValue(t, textOf(lengths(1024)), lets+"(let ((d10 (str.++ d9 d9))) d10"+strings.Repeat(")", 11))
}

func TestP122ShortTexts(t *testing.T) {
	for _, n := range []int{0, 1, 2, 500, 998, 999, 1000, 1001, 1002, 1999, 2000, 2001, 2002, 3000, 65536} {
		if n > 0 {
			wantText(t, lengths(n))
		}
		wantText(t, zigzag(n, 1))
		wantText(t, zigzag(n/2, 2))
		wantText(t, zigzag(n/3, 3))
	}
}

func TestP122LongRuns(t *testing.T) {
	for _, n := range []int{1001, 1002, 1003, 1022, 1023, 1024, 1025, 1026, 1500, 1999, 2000, 5000, 123456789} {
		wantText(t, lengths(n))
	}
	for k := 10; k <= 40; k++ {
		for _, n := range []int{1<<k - 2, 1<<k - 1, 1 << k, 1<<k + 1, 1<<k + 2, 1<<k + 1<<(k/2), 3 << (k - 1)} {
			if n <= most && n > 0 {
				wantText(t, lengths(n))
			}
		}
	}
	for _, c := range []int{0, 10, ' ', '"', '\\', 'd', '~', 127, 0x2ffff} {
		wantText(t, []api.Run{run(c, 1001)})
		wantText(t, []api.Run{run(c, most)})
		wantText(t, []api.Run{run(c, 1000), run('x', 1001)})
	}
}

// A long run is a piece by itself, ahead of short ones, behind them and between them.
func TestP122LongRunsAmongOthers(t *testing.T) {
	for _, l := range [][]int{
		{1000, 1}, {1, 1000}, {1, 999}, {999, 1}, {1, 998, 1}, {1, 998, 2}, {999, 1, 1}, {999, 2, 1}, {999, 2, 998}, {999, 2, 999}, {500, 500, 1}, {500, 501, 500}, {1000, 1000}, {1000, 1000, 1000}, {1, 1, 1000, 1, 1}, {600, 400, 600, 400}, {400, 600, 401, 600},
		{1001, 1}, {1, 1001}, {1, 1001, 1}, {1001, 1001}, {1001, 1, 1001}, {1001, 999, 1, 1001}, {999, 1001, 1}, {1000, 1001, 1000}, {1, 2, 1001, 3, 4}, {1, 1024, 1}, {5, 5, 5, most - 100, 5, 5}, {1 << 39, 1 << 39}, {most - 1, 1}, {1, most - 1}, {1 << 30, 1, 1 << 31, 1 << 20},
		{1001, 1000, 1001}, {1001, 1001, 1, 1001}, {1, 1001, 999, 1, 1}, {1, 1001, 999, 1}, {1001, 999, 2},
	} {
		if !wantText(t, lengths(l...)) {
			t.Errorf("%v is too long", l)
		}
	}
}

// A piece is full with 1000 code points, be they of few runs or of many.
func TestP122FullPieces(t *testing.T) {
	for _, behind := range []int{1, 2, 999, 1000, 1001} {
		for _, s := range [][]api.Run{zigzag(998, 1), zigzag(999, 1), zigzag(1000, 1), zigzag(1001, 1), zigzag(500, 2), zigzag(499, 2), zigzag(333, 3), zigzag(334, 3), zigzag(10, 100), zigzag(11, 100), zigzag(2, 500), zigzag(4, 500), zigzag(3, 334)} {
			wantText(t, append(slices.Clone(s), run(122, behind)))
			wantText(t, append([]api.Run{run(122, behind)}, s...))
		}
	}
}

func TestP122MostPieces(t *testing.T) {
	for _, n := range []int{199, 200, 201, 202, 1000, 65536} {
		fits := n <= 200
		for _, s := range [][]api.Run{zigzag(n, 1000), zigzag(n, 501), zigzag(n, 999), append(zigzag(n-1, 1000), run(122, 1)), append([]api.Run{run(122, 1)}, zigzag(n-1, 1000)...)} {
			if wantText(t, s) != fits {
				t.Errorf("%d pieces", n)
			}
		}
	}
	// Of short runs there may be many more.
	if !wantText(t, zigzag(65536, 1)) || !wantText(t, zigzag(65536, 3)) {
		t.Error("65536 runs")
	}
	if !wantText(t, zigzag(40000, 5)) || wantText(t, zigzag(40001, 5)) || !wantText(t, append(zigzag(39999, 5), run(122, 4))) {
		t.Error("200 pieces of 200 runs")
	}
	if !wantText(t, append(append([]api.Run{run(122, 5000)}, zigzag(198, 1000)...), run(122, 1))) || wantText(t, append(append([]api.Run{run(122, 5000)}, zigzag(199, 1000)...), run(122, 1))) {
		t.Error("a long run, and 198 full pieces, and one")
	}
}

// exactly is a text of long runs and short ones that is told by n atoms and lists.
func exactly(n int) []api.Run {
	// A run of 1024 is told by 97, and a full literal by one.
	longs := (n - 2) / 98
	short := n - 2 - 97*longs
	var l []int
	for range longs {
		l = append(l, 1024)
	}
	for range short {
		l = append(l, 1000)
	}
	return lengths(l...)
}

func TestP122MostAtomsAndLists(t *testing.T) {
	for _, n := range []int{1000, 1998, 1999, 2000, 2001, 2002, 2003, 2500, 4000} {
		s := exactly(n)
		if _, size, pieces := told(s); size != n || pieces > 200 {
			t.Fatalf("the test's text has %d of %d", size, n)
		}
		if wantText(t, s) != (n <= 2000) {
			t.Errorf("%d atoms and lists", n)
		}
		slices.Reverse(s)
		if wantText(t, s) != (n <= 2000) {
			t.Errorf("%d atoms and lists, turned round", n)
		}
	}
	// Here it is the names in the innermost lists that count.
	for bits := range 10 {
		n := 1 << 10
		for k := range bits {
			n |= 1 << k
		}
		s := lengths(slices.Repeat([]int{n}, 20)...)
		_, size, _ := told(s)
		if wantText(t, s) != (size <= 2000) {
			t.Errorf("%d times %d", 20, n)
		}
	}
}

// Both limits may be passed at once, and nothing lasts long for that.
func TestP122FarTooLong(t *testing.T) {
	for _, s := range [][]api.Run{zigzag(65536, 1<<24), zigzag(65536, 1001), zigzag(200, 1<<32), zigzag(201, 1<<32), zigzag(1000, 1<<30)} {
		for range 20 {
			wantLong(t, "far too long", textOf(s))
		}
	}
}

// anyText is a text by chance: its runs are short, about as long as a literal may be, or much longer.
func anyText(r *rand.Rand) []api.Run {
	var s []api.Run
	for range r.Intn([]int{3, 6, 12, 40, 250}[r.Intn(5)]) {
		n := 1 + r.Intn(4)
		switch r.Intn(6) {
		case 0:
			n = 1 + r.Intn(1000)
		case 1:
			n = 995 + r.Intn(10)
		case 2:
			if r.Intn(4) == 0 {
				n = 1 + r.Intn(1<<(10+r.Intn(20)))
			}
		}
		s = append(s, run(97+(len(s)+r.Intn(2)*3)%7, n))
		if k := len(s); k > 1 && s[k-1].C == s[k-2].C {
			s[k-1].C = 0x2ffff - k
		}
	}
	return s
}

func TestP122AnyTexts(t *testing.T) {
	r := rand.New(rand.NewSource(4))
	fit, long := 0, 0
	for range 1500 {
		if wantText(t, anyText(r)) {
			fit++
		} else {
			long++
		}
	}
	if fit < 700 || long < 60 {
		t.Errorf("%d were told, %d were too long", fit, long)
	}
}
