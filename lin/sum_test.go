package lin_test

import (
	"math"
	"math/big"
	"math/rand"
	"slices"
	"testing"

	"gudgeon/api"
	"gudgeon/lin"
	"gudgeon/whole"
)

// faulty is sums that are not in their own form, with what they are in it.
func faulty() map[string][2]api.Lin {
	minus := api.Whole{Neg: true}
	return map[string][2]api.Lin{
		"variables that fall":               {of(7, 3, 1, 2, 5, 1, -2), of(7, 1, -2, 2, 5, 3, 1)},
		"a variable twice, side by side":    {of(0, 4, 2, 4, 3), of(0, 4, 5)},
		"a variable twice, far apart":       {of(0, 4, 2, 1, 1, 5, 1, 4, 3), of(0, 1, 1, 4, 5, 5, 1)},
		"a variable five times":             {of(0, 4, 1, 4, 1, 4, 1, 4, 1, 4, 1), of(0, 4, 5)},
		"a variable that leaves nothing":    {of(1, 4, 2, 5, 1, 4, -2), of(1, 5, 1)},
		"three that leave nothing":          {of(1, 4, 2, 4, -5, 4, 3), of(1)},
		"all leave nothing":                 {of(-3, 1, 1, 2, 1, 2, -1, 1, -1), of(-3)},
		"a variable no times":               {of(2, 1, 0, 2, 3, 3, 0), of(2, 2, 3)},
		"one variable no times":             {of(2, 9, 0), of(2)},
		"noughts at the end of K":           {api.Lin{V: []api.Mono{{V: 1, K: noughts(whole.Of(-4))}}}, of(0, 1, -4)},
		"noughts at the end of C":           {api.Lin{C: noughts(whole.Of(9)), V: monos(1, 1)}, of(9, 1, 1)},
		"noughts that are a K of 0":         {api.Lin{V: []api.Mono{{V: 1, K: noughts(whole.Of(0))}, mono(2, 1)}}, of(0, 2, 1)},
		"a K of 0 told to be below 0":       {api.Lin{V: []api.Mono{{V: 1, K: minus}, mono(2, 1)}}, of(0, 2, 1)},
		"a C of 0 told to be below 0":       {api.Lin{C: minus, V: monos(2, 1)}, of(0, 2, 1)},
		"a C of noughts told to be below 0": {api.Lin{C: noughts(minus)}, of(0)},
		"noughts and what is below 0":       {api.Lin{C: noughts(whole.Of(-6)), V: []api.Mono{{V: 2, K: noughts(minus)}, {V: 1, K: noughts(whole.Of(-6))}}}, of(-6, 1, -6)},
		"one with noughts less one without": {api.Lin{V: []api.Mono{{V: 1, K: noughts(whole.Of(5))}, mono(1, -5)}}, of(0)},
		"the greatest ahead of the least":   {of(0, math.MaxInt, 1, math.MinInt, 2), of(0, math.MinInt, 2, math.MaxInt, 1)},
		"ends of int, 0 and below it":       {of(0, math.MaxInt, 1, 0, 3, math.MinInt, 2, -1, 4, 1, 5), of(0, math.MinInt, 2, -1, 4, 0, 3, 1, 5, math.MaxInt, 1)},
		"ends of int, more than once":       {of(0, math.MaxInt, 1, math.MinInt, 2, math.MaxInt, 3, math.MinInt, -2), of(0, math.MaxInt, 4)},
		"falling, more than once, and noughts": {
			api.Lin{C: noughts(whole.Of(1)), V: []api.Mono{{V: 9, K: noughts(whole.Of(2))}, mono(5, 1), {V: 9, K: minus}, mono(-5, 7), mono(5, -1), mono(9, 2), {V: -6, K: noughts(minus)}}},
			of(1, -5, 7, 9, 4),
		},
	}
}

func TestP131Norm(t *testing.T) {
	for what, c := range faulty() {
		wantLin(t, what, lin.Norm(c[0]), c[1])
		wantLin(t, what+", once more", lin.Norm(lin.Norm(c[0])), c[1])
	}
	for _, a := range []api.Lin{{}, of(5), of(-5), of(0, 0, 1), of(0, -3, -1), of(7, -2, 3, 0, -1, 5, 9)} {
		wantLin(t, "what is in its own form", lin.Norm(a), a)
	}
	wantLin(t, "an empty list", lin.Norm(api.Lin{V: []api.Mono{}}), api.Lin{})
}

func TestP131NormGreatNumbers(t *testing.T) {
	n := long(500)
	a := api.Lin{C: n, V: []api.Mono{{V: 1, K: n}, {V: 0, K: whole.Neg(n)}, {V: 1, K: whole.Of(1)}, {V: 0, K: n}, {V: 1, K: n}}}
	wantLin(t, "great numbers", lin.Norm(a), api.Lin{C: n, V: []api.Mono{{V: 1, K: whole.Add(whole.Add(n, n), whole.Of(1))}}})
}

// One variable, very often, is no more work than many; nor is one long number among short ones.
func TestP131NormLongSums(t *testing.T) {
	const many = 200000
	var a api.Lin
	for i := range many {
		a.V = append(a.V, mono(many-i, 1), mono(3*many, i%3-1))
	}
	a.V[0].K = whole.Norm(api.Whole{N: slices.Repeat([]uint32{5}, 10000)})
	a.V[1].K = a.V[0].K
	got := lin.Norm(a)
	wantSum(t, "many variables", got, said(a))
	if len(got.V) != many+1 {
		t.Errorf("%d variables", len(got.V))
	}
}

func TestP131Of(t *testing.T) {
	for _, n := range []int{0, 1, -1, 7, -7, 1 << 32, math.MaxInt, math.MinInt} {
		wantLin(t, "Of", lin.Of(whole.Of(n)), of(n))
		wantLin(t, "Of with noughts", lin.Of(noughts(whole.Of(n))), of(n))
	}
	for _, z := range zeros() {
		wantLin(t, "Of 0", lin.Of(z), api.Lin{})
	}
	wantLin(t, "Of many digits", lin.Of(whole.Neg(long(900))), api.Lin{C: whole.Neg(long(900))})
}

func TestP131Var(t *testing.T) {
	for _, v := range []int{0, 1, -1, 12, -12, math.MaxInt, math.MinInt} {
		got := lin.Var(v)
		wantLin(t, "Var", got, of(0, v, 1))
		wantInt(t, "At of Var", lin.At(got, v), 1)
		wantInt(t, "At of Var, of another one", lin.At(got, v^1), 0)
	}
}

func TestP131At(t *testing.T) {
	a := of(99, 5, 2, -1, 7, 5, 3, 8, 1, 8, -1, 0, 0, math.MinInt, -4, math.MaxInt, 6)
	for v, k := range map[int]int{5: 5, -1: 7, 8: 0, 0: 0, 4: 0, 6: 0, 99: 0, math.MinInt: -4, math.MaxInt: 6, math.MinInt + 1: 0} {
		wantInt(t, "At", lin.At(a, v), k)
	}
	for _, c := range faulty() {
		for _, v := range append([]int{4, 5, 9, -5}, variables...) {
			wantNum(t, "At of "+said(c[0]).text(), lin.At(c[0], v), said(c[1]).at(v))
		}
	}
	wantInt(t, "At of nothing", lin.At(api.Lin{}, 0), 0)
	for _, z := range zeros() {
		wantInt(t, "At of a K of 0", lin.At(api.Lin{V: []api.Mono{{V: 3, K: z}}}, 3), 0)
	}
	wantNum(t, "At of many digits", lin.At(api.Lin{V: []api.Mono{{V: 3, K: noughts(long(300))}}}, 3), toBig(long(300)))
}

func TestP131Add(t *testing.T) {
	for _, c := range [][3]api.Lin{
		{{}, {}, {}},
		{of(3), of(4), of(7)},
		{of(3), of(-3), {}},
		{of(3), of(0, 1, 1), of(3, 1, 1)},
		{of(0, 1, 1), of(3), of(3, 1, 1)},
		{of(1, 2, 5), of(2, 2, -5), of(3)},
		{of(1, 1, 1, 2, 1), of(2, 1, -1, 2, -1), of(3)},
		{of(1, 1, 2, 3, 4), of(-1, 2, 7, 3, 1), of(0, 1, 2, 2, 7, 3, 5)},
		{of(0, 9, 1), of(0, 1, 1), of(0, 1, 1, 9, 1)},
		{of(0, math.MaxInt, 1), of(0, math.MinInt, 1), of(0, math.MinInt, 1, math.MaxInt, 1)},
		{of(0, math.MinInt, 1), of(0, math.MinInt, 1), of(0, math.MinInt, 2)},
		{of(0, 3, 1, 1, 1, 3, 2), of(0, 3, -3, 1, 0, 0, 1), of(0, 0, 1, 1, 1)},
		{api.Lin{C: api.Whole{Neg: true}}, api.Lin{C: noughts(whole.Of(0))}, {}},
		{of(math.MaxInt, 1, math.MaxInt), of(1, 1, 1), {C: num("9223372036854775808"), V: []api.Mono{{V: 1, K: num("9223372036854775808")}}}},
	} {
		what := said(c[0]).text() + " and " + said(c[1]).text()
		wantLin(t, what, lin.Add(c[0], c[1]), c[2])
		wantLin(t, what+", the other way", lin.Add(c[1], c[0]), c[2])
	}
	for what, c := range faulty() {
		wantLin(t, what+", and nothing", lin.Add(c[0], api.Lin{}), c[1])
		wantLin(t, "nothing, and "+what, lin.Add(api.Lin{}, c[0]), c[1])
		wantSum(t, what+", twice", lin.Add(c[0], c[0]), said(c[1]).plus(said(c[1]), big.NewInt(1)))
	}
}

func TestP131Scale(t *testing.T) {
	a := of(-4, 5, 2, -1, -7, 5, 3, 8, 1, 8, -1)
	wantLin(t, "once", lin.Scale(a, whole.Of(1)), of(-4, -1, -7, 5, 5))
	wantLin(t, "less", lin.Scale(a, whole.Of(-1)), of(4, -1, 7, 5, -5))
	wantLin(t, "thrice", lin.Scale(a, noughts(whole.Of(3))), of(-12, -1, -21, 5, 15))
	wantLin(t, "less, twice", lin.Scale(a, noughts(whole.Of(-2))), of(8, -1, 14, 5, -10))
	n := long(700)
	wantSum(t, "often", lin.Scale(a, n), said(a).times(toBig(n)))
	wantSum(t, "less, often", lin.Scale(a, whole.Neg(n)), said(a).times(toBig(whole.Neg(n))))
	for _, z := range zeros() {
		wantLin(t, "no times", lin.Scale(a, z), api.Lin{})
		wantLin(t, "nothing, no times", lin.Scale(api.Lin{C: z}, z), api.Lin{})
		wantLin(t, "nothing, often", lin.Scale(api.Lin{C: z, V: []api.Mono{{V: 1, K: z}}}, n), api.Lin{})
	}
	for what, c := range faulty() {
		for _, k := range []api.Whole{whole.Of(1), whole.Of(-1), whole.Of(0), whole.Of(5), n} {
			wantSum(t, what, lin.Scale(c[0], k), said(c[1]).times(toBig(k)))
		}
	}
}

func TestP131Put(t *testing.T) {
	for _, c := range []struct {
		a   api.Lin
		v   int
		b   api.Lin
		out api.Lin
	}{
		{of(7, 1, 3, 2, 5), 1, of(4, 3, 2), of(19, 2, 5, 3, 6)},
		{of(7, 1, -3, 2, 5), 1, of(4, 3, 2), of(-5, 2, 5, 3, -6)},
		{of(7, 1, 3, 2, 5), 9, of(4, 3, 2), of(7, 1, 3, 2, 5)},
		{of(7, 1, 3, 2, 5), 1, api.Lin{}, of(7, 2, 5)},
		{of(7, 1, 3), 1, of(-2), of(1)},
		{api.Lin{}, 1, of(5, 1, 5), api.Lin{}},
		{of(7), 1, of(5, 1, 5), of(7)},
		// A sum that holds the variable itself.
		{of(7, 1, 3, 2, 5), 1, of(0, 1, 1), of(7, 1, 3, 2, 5)},
		{of(7, 1, 3, 2, 5), 1, of(1, 1, 1), of(10, 1, 3, 2, 5)},
		{of(7, 1, 3, 2, 5), 1, of(1, 1, -2, 2, 1), of(10, 1, -6, 2, 8)},
		{of(0, 1, 2, 2, 3), 2, of(0, 2, 2), of(0, 1, 2, 2, 6)},
		// What stands there more than once, or stands there and leaves nothing.
		{of(0, 1, 2, 3, 1, 1, 3), 1, of(1, 2, 1), of(5, 2, 5, 3, 1)},
		{of(0, 1, 2, 3, 1, 1, -2), 1, of(1, 2, 1), of(0, 3, 1)},
		{of(0, 3, 1, 1, 2), 1, of(0, 3, 1, 2, 2, 3, -2), of(0, 2, 4, 3, -1)},
		{of(0, 1, 0), 1, of(5, 2, 2), api.Lin{}},
		// Nothing is left.
		{of(-6, 1, 2, 2, -2), 1, of(3, 2, 1), api.Lin{}},
		{of(0, 1, 1, 2, 1), 1, of(0, 2, -1), api.Lin{}},
		{of(0, math.MinInt, 2, math.MaxInt, 3), math.MaxInt, of(1, math.MinInt, -1), of(3, math.MinInt, -1)},
		{of(0, math.MinInt, 2, math.MaxInt, 3), math.MinInt, of(0, -1, 1), of(0, -1, 2, math.MaxInt, 3)},
		{of(0, -5, 2, 0, 1), 0, of(0, 9, 1), of(0, -5, 2, 9, 1)},
	} {
		what := said(c.a).text() + " with " + said(c.b).text()
		wantLin(t, what, lin.Put(c.a, c.v, c.b), c.out)
	}
	a, n := of(0, 1, 2, 2, 1), long(400)
	wantLin(t, "many digits", lin.Put(a, 1, api.Lin{C: n}), api.Lin{C: whole.Add(n, n), V: monos(2, 1)})
	for what, c := range faulty() {
		for v := range said(of(0, 1, 1, 4, 1, 5, 1, 9, 1, math.MaxInt, 1)).k {
			b := of(3, v, 2, 4, -5, 9, 1, v, 1)
			wantSum(t, what, lin.Put(c[0], v, b), said(c[1]).put(v, said(b)))
			wantSum(t, what+", into another one", lin.Put(b, v, c[0]), said(b).put(v, said(c[1])))
		}
	}
}

func TestP131Value(t *testing.T) {
	a := of(7, 1, 3, 2, -5)
	for _, c := range []struct {
		what string
		a    api.Lin
		l    []api.Mono
		n    int
	}{
		{"both", a, monos(1, 4, 2, 1), 14},
		{"in another order", a, monos(2, 1, 1, 4), 14},
		{"one lacks", a, monos(1, 4), 19},
		{"the other one lacks", a, monos(2, 1), 2},
		{"both lack", a, nil, 7},
		{"no list", a, []api.Mono{}, 7},
		{"others", a, monos(3, 9, 1, 4, 0, 5, 2, 1, -1, 6), 14},
		{"others alone", a, monos(3, 9, 0, 5), 7},
		{"the first one counts", a, monos(1, 4, 1, 100, 2, 1, 1, 50, 2, 7), 14},
		{"the first one counts, also of 0", a, monos(1, 0, 1, 100, 2, 0, 2, 3), 7},
		{"the first one counts, side by side or not", a, monos(2, 2, 1, 1, 2, 50, 1, 60), 0},
		{"below 0", a, monos(1, -4, 2, -1), 0},
		{"0 in some form", a, []api.Mono{{V: 1, K: api.Whole{Neg: true, N: []uint32{0}}}, {V: 1, K: whole.Of(5)}, {V: 2, K: noughts(whole.Of(1))}}, 2},
		{"no variables", of(-3), monos(1, 4), -3},
		{"nothing", api.Lin{}, monos(0, 4), 0},
		{"a variable twice", of(1, 5, 2, 5, 3), monos(5, 10, 5, 20), 51},
		{"one that leaves nothing", of(1, 5, 2, 5, -2), monos(5, 10), 1},
		{"no times", of(1, 5, 0), monos(5, 10), 1},
		{"falling", of(1, 9, 1, -9, 2), monos(-9, 5, 9, 7), 18},
		{"ends of int", of(0, math.MaxInt, 1, math.MinInt, 2, 0, 3), monos(math.MinInt, 5, math.MaxInt, 7, 0, 11), 50},
		{"C with noughts", api.Lin{C: noughts(whole.Of(-2)), V: monos(1, 1)}, monos(1, 2), 0},
	} {
		wantInt(t, c.what, lin.Value(c.a, c.l), c.n)
	}
	n := long(600)
	l := []api.Mono{{V: 1, K: n}, {V: 2, K: whole.Neg(n)}}
	wantNum(t, "many digits", lin.Value(a, l), said(a).value(l))
	wantNum(t, "many digits on both sides", lin.Value(api.Lin{C: n, V: l}, l), said(api.Lin{C: n, V: l}).value(l))
	for what, c := range faulty() {
		l := monos(4, 3, 5, -2, 1, 10, math.MaxInt, 8, math.MinInt, -9, 4, 99)
		wantNum(t, what, lin.Value(c[0], l), said(c[1]).value(l))
	}
}

// Under an assignment of many variables each is found.
func TestP131ValueOfMany(t *testing.T) {
	const many = 100000
	var a api.Lin
	var l []api.Mono
	for i := range many {
		a.V = append(a.V, mono(many-i, i%7-3))
		l = append(l, mono(i+1, i%5-2), mono(i, 1000))
	}
	x := new(big.Int)
	for i := range many {
		// What counts stands ahead of each variable's 1000.
		x.Add(x, big.NewInt(int64((i%7-3)*((many-i-1)%5-2))))
	}
	wantNum(t, "many", lin.Value(a, l), x)
}

// Whatever is handed in, what is answered is what it says, and in its own form.
func TestP131AnySums(t *testing.T) {
	r := rand.New(rand.NewSource(1))
	for range 20000 {
		a, b, k, v, l := someSum(r), someSum(r), someNum(r), variables[r.Intn(len(variables))], someMonos(r, 12)
		x, y := said(a), said(b)
		wantSum(t, "Norm of "+x.text(), lin.Norm(a), x)
		wantSum(t, "Of", lin.Of(k), sum{toBig(k), nil})
		wantNum(t, "At of "+x.text(), lin.At(a, v), x.at(v))
		wantSum(t, "Add of "+x.text()+" and "+y.text(), lin.Add(a, b), x.plus(y, big.NewInt(1)))
		wantSum(t, "Scale of "+x.text(), lin.Scale(a, k), x.times(toBig(k)))
		wantSum(t, "Put into "+x.text()+" of "+y.text(), lin.Put(a, v, b), x.put(v, y))
		wantNum(t, "Value of "+x.text(), lin.Value(a, l), x.value(l))
		if t.Failed() {
			return
		}
	}
}
