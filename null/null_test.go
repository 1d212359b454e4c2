package null_test

import (
	"fmt"
	"math"
	"math/rand"
	"slices"
	"testing"

	"exegete/api"
	"exegete/flat"
	"exegete/null"
	"exegete/read"
)

// The calls have the signatures of the chapter.
var (
	_ func(g api.Gram) []bool            = null.All
	_ func(g api.Gram, n int) []int      = null.Lefts
	_ func(g api.Gram, l []api.Sym) bool = null.Empty
)

// gramOf is the nonterminals of a grammar's text.
func gramOf(t *testing.T, s string) api.Gram {
	t.Helper()
	f, at, e := read.File(s)
	if e != api.OK {
		t.Fatalf("%s is not read: %d, %d", s, at, e)
	}
	g, at, e := flat.Of(f)
	if e != api.OK {
		t.Fatalf("%s is not made: %d, %d", s, at, e)
	}
	return g
}

func non(n int) api.Sym {
	return api.Sym{Kind: api.Non, N: n}
}

// nons is symbols that are nonterminals.
func nons(l ...int) []api.Sym {
	var out []api.Sym
	for _, n := range l {
		out = append(out, non(n))
	}
	return out
}

func prod(a ...[]api.Sym) api.Prod {
	return api.Prod{A: a}
}

// short is a thing's beginning, so that a failure can be read.
func short(x any) string {
	s := fmt.Sprintf("%+v", x)
	return s[:min(len(s), 600)]
}

// those are the numbers of which it is told that it is so.
func those(l []bool) []int {
	var out []int
	for n, is := range l {
		if is {
			out = append(out, n)
		}
	}
	return out
}

// areEmpty fails the test if any others than these are told to be empty, by All or by Empty.
func areEmpty(t *testing.T, g api.Gram, want ...int) {
	t.Helper()
	l := null.All(g)
	if len(l) != len(g.P) || !slices.Equal(those(l), want) {
		t.Errorf("All(%s) = %v; want %v", short(g), l, want)
	}
	for n := range g.P {
		if null.Empty(g, nons(n)) != slices.Contains(want, n) {
			t.Errorf("Empty of %d, of %s, is not %v", n, short(g), slices.Contains(want, n))
		}
	}
}

// hasLefts fails the test if any others than these are told to be a nonterminal's lefts.
func hasLefts(t *testing.T, g api.Gram, n int, want ...int) {
	t.Helper()
	if l := null.Lefts(g, n); !slices.Equal(l, want) {
		t.Errorf("Lefts(%s, %d) = %v; want %v", short(g), n, l, want)
	}
}

// isEmpty fails the test if of symbols something else is told.
func isEmpty(t *testing.T, g api.Gram, l []api.Sym, want bool) {
	t.Helper()
	if null.Empty(g, l) != want {
		t.Errorf("Empty(%s, %s) = %v", short(g), short(l), !want)
	}
}

// P9.1, P9.2: the chapter's example.
func TestExample(t *testing.T) {
	g := gramOf(t, `a = b c; b = ; c = "x";`)
	areEmpty(t, g, 1)
	hasLefts(t, g, 0, 1, 2)
	hasLefts(t, g, 1)
	hasLefts(t, g, 2)
}

// P9.1: who is empty, by which alternative, by one and by several, by itself, and by one another.
func TestWhoIsEmpty(t *testing.T) {
	for _, c := range []struct {
		s    string
		want []int
	}{
		// An alternative without a symbol, wherever it stands.
		{`a = ;`, []int{0}}, {`a = "x";`, nil}, {`a = | "x";`, []int{0}}, {`a = "x" |;`, []int{0}}, {`a = "x" | | "y";`, []int{0}}, {`a = |;`, []int{0}}, {`a = "x" | "y";`, nil},
		// One empty nonterminal, and several.
		{`a = b; b = ;`, []int{0, 1}}, {`a = b b; b = ;`, []int{0, 1}}, {`a = b c d; b = ; c = ; d = ;`, []int{0, 1, 2, 3}}, {`a = b c d; b = ; c = ; d = "x";`, []int{1, 2}},
		{`a = b c d; b = ; c = "x"; d = ;`, []int{1, 3}}, {`a = b c d; b = "x"; c = ; d = ;`, []int{2, 3}}, {`a = "x" | b | "y"; b = ;`, []int{0, 1}},
		// Itself alone, and with others.
		{`a = a;`, nil}, {`a = a a;`, nil}, {`a = a | a a;`, nil}, {`a = a |;`, []int{0}}, {`a = | a "x";`, []int{0}}, {`a = a b; b = ;`, []int{1}}, {`a = b a; b = ;`, []int{1}}, {`a = b a | b; b = ;`, []int{0, 1}},
		// One another alone, which are not; one of them by something else, which all are.
		{`a = b; b = a;`, nil}, {`a = b; b = c; c = a;`, nil}, {`a = b c; b = a | c; c = a b;`, nil}, {`a = b; b = c; c = a |;`, []int{0, 1, 2}}, {`a = b; b = a | c; c = ;`, []int{0, 1, 2}},
		{`a = b c; b = a |; c = a;`, []int{1}}, {`a = b c; b = a |; c = a | b;`, []int{0, 1, 2}}, {`a = b; b = a; c = ;`, []int{2}},
		// By a nonterminal behind it, and ahead of it.
		{`a = b; b = ; c = "x";`, []int{0, 1}}, {`a = ; b = a; c = "x";`, []int{0, 1}}, {`a = "x"; b = c; c = ;`, []int{1, 2}}, {`a = c b; b = ; c = b;`, []int{0, 1, 2}}, {`a = ; b = a c; c = a a;`, []int{0, 1, 2}},
		// What is no nonterminal, ahead of empty ones, between and behind them; also of no byte, and of no scalar.
		{`a = "x" b b; b = ;`, []int{1}}, {`a = b "x" b; b = ;`, []int{1}}, {`a = b b "x"; b = ;`, []int{1}}, {`a = [a-z] b b; b = ;`, []int{1}}, {`a = b [a-z] b; b = ;`, []int{1}}, {`a = b b [a-z]; b = ;`, []int{1}},
		{`a = <00-ff> b; b = ;`, []int{1}}, {`a = b <00-ff>; b = ;`, []int{1}}, {`a = <> | [] | b <> | [] b; b = ;`, []int{1}},
		// Parts of which new nonterminals are made.
		{`a = "x"*;`, []int{0, 1}}, {`a = "x"+;`, nil}, {`a = "x"?;`, []int{0, 1}}, {`a = b+; b = ;`, []int{0, 1, 2}}, {`a = ("x" | b) b; b = ;`, []int{0, 1, 2}}, {`a = b ("x" | "y"); b = ;`, []int{1}}, {`a = ("x"? | b)+ "y"?; b = "z"*;`, []int{0, 1, 2, 3, 4, 5, 6}},
		{`a = ("x"? "z")+ "y"?;`, []int{2, 3}},
	} {
		areEmpty(t, gramOf(t, c.s), c.want...)
	}
}

// P9.1: of symbols: none, one, several, those that are no nonterminals, and those that are none of these.
func TestSymbols(t *testing.T) {
	// 0 and 2 are not empty, 1 and 3 are.
	g := gramOf(t, `a = b "x"; b = d d; c = c; d = ;`)
	areEmpty(t, g, 1, 3)
	for _, c := range []struct {
		l    []api.Sym
		want bool
	}{
		{nil, true}, {[]api.Sym{}, true}, {nons(1), true}, {nons(3), true}, {nons(0), false}, {nons(2), false},
		{nons(1, 3, 1), true}, {nons(1, 1, 1, 0), false}, {nons(0, 1, 1), false}, {nons(1, 2, 3), false}, {nons(0, 2), false},
		// More than an alternative may have.
		{slices.Repeat(nons(1, 3), 1000), true}, {append(slices.Repeat(nons(1, 3), 1000), non(0)), false},
		// What its ranges are is not asked.
		{[]api.Sym{{Kind: api.Non, N: 1, R: []api.Range{{Lo: 1, Hi: 1}}}}, true}, {[]api.Sym{{Kind: api.Non, N: 2, R: []api.Range{{Lo: 5, Hi: 4}}}}, false},
	} {
		isEmpty(t, g, c.l, c.want)
	}
	var wrong []api.Sym
	for _, kind := range []int{api.Byte, api.Scal, -1, 3, 4, 255, 256, math.MinInt, math.MaxInt} {
		wrong = append(wrong, api.Sym{Kind: kind}, api.Sym{Kind: kind, N: 1}, api.Sym{Kind: kind, N: 3}, api.Sym{Kind: kind, N: -1}, api.Sym{Kind: kind, R: []api.Range{{Lo: 120, Hi: 120}}})
	}
	wrong = append(wrong, nons(-1, -2, 4, 5, 59, 60, 61, math.MinInt, math.MaxInt, 1<<32+1)...)
	for _, s := range wrong {
		for _, l := range [][]api.Sym{{s}, {s, non(1)}, {non(1), s}, {non(3), s, non(1)}, {s, s}, {non(0), s}} {
			isEmpty(t, g, l, false)
		}
	}
}

// P9.2: the first symbol, those behind empty ones, of each alternative, rising, and each once.
func TestLefts(t *testing.T) {
	for _, c := range []struct {
		s    string
		want []int
	}{
		// None.
		{`a = ;`, nil}, {`a = "x";`, nil}, {`a = "x" a;`, nil}, {`a = [a] a | <00> b | ; b = ;`, nil}, {`a = <> a;`, nil}, {`a = [] a;`, nil},
		// The first symbol, itself too.
		{`a = a;`, []int{0}}, {`a = a "x" | "y";`, []int{0}}, {`a = a a;`, []int{0}}, {`a = b; b = "x";`, []int{1}}, {`a = b a; b = "x";`, []int{1}}, {`a = b a; b = ;`, []int{0, 1}}, {`a = b b b a; b = ;`, []int{0, 1}},
		// Those behind empty ones, and the first one that is not, but none behind that, or behind what is no nonterminal.
		{`a = b c d; b = ; c = ; d = "x";`, []int{1, 2, 3}}, {`a = b c d; b = ; c = "x"; d = ;`, []int{1, 2}}, {`a = b c d; b = "x"; c = ; d = ;`, []int{1}}, {`a = b c d; b = ; c = ; d = ;`, []int{1, 2, 3}},
		{`a = "x" b c; b = ; c = ;`, nil}, {`a = b "x" c; b = ; c = ;`, []int{1}}, {`a = b c "x"; b = ; c = ;`, []int{1, 2}}, {`a = b [x] c; b = ; c = ;`, []int{1}}, {`a = b <78> c; b = ; c = ;`, []int{1}},
		{`a = b <> c; b = ; c = ;`, []int{1}}, {`a = b [] c; b = ; c = ;`, []int{1}}, {`a = a b; b = ;`, []int{0}}, {`a = a b |; b = ;`, []int{0, 1}}, {`a = b c; b = c; c = b;`, []int{1}},
		// Of several alternatives, in any order.
		{`a = b | c; b = "x"; c = "x";`, []int{1, 2}}, {`a = c | b; b = "x"; c = "x";`, []int{1, 2}}, {`a = "x" | d | c b | "y" | b c |; b = ; c = "x"; d = ;`, []int{1, 2, 3}}, {`a = d c b | b d; b = "x"; c = "x"; d = ;`, []int{1, 2, 3}},
		{`a = d c b; b = ; c = ; d = ;`, []int{1, 2, 3}}, {`a = d | d c | d c b | d c b a; b = "x"; c = ; d = ;`, []int{1, 2, 3}},
		// More than once.
		{`a = b b; b = "x";`, []int{1}}, {`a = b b b; b = ;`, []int{1}}, {`a = b | b; b = "x";`, []int{1}}, {`a = b c b c | c b; b = ; c = ;`, []int{1, 2}}, {`a = b | c b | b c | a; b = ; c = "x";`, []int{0, 1, 2}},
		// Not those of one's lefts.
		{`a = b; b = c; c = d; d = "x";`, []int{1}}, {`a = b; b = c; c = d; d = ;`, []int{1}},
		// Those of which a part is made.
		{`a = "x"* b; b = ;`, []int{1, 2}}, {`a = "x"+ b; b = ;`, []int{2}}, {`a = (b | "x")? a; b = "x";`, []int{0, 2}},
	} {
		hasLefts(t, gramOf(t, c.s), 0, c.want...)
	}
	// Of each, not of the first one alone.
	g := gramOf(t, `a = "x"; b = a c; c = | d b; d = c d a;`)
	areEmpty(t, g, 2)
	for n, want := range [][]int{nil, {0}, {3}, {2, 3}} {
		hasLefts(t, g, n, want...)
	}
	for _, n := range []int{-1, -2, -4, 4, 5, 59, 60, math.MinInt, math.MaxInt, 1 << 32} {
		hasLefts(t, g, n)
	}
}

// chain is nonterminals of which each is the one of the next number in order, and the last one in order is of an alternative.
func chain(order []int, last []api.Sym) api.Gram {
	g := api.Gram{P: make([]api.Prod, len(order))}
	for i, n := range order {
		if i+1 < len(order) {
			g.P[n] = prod(nons(order[i+1]))
		} else {
			g.P[n] = prod(last)
		}
	}
	return g
}

// P9.1, P9.2: chains of up to 60 nonterminals, each behind the next one, ahead of it, or anywhere.
func TestChains(t *testing.T) {
	r := rand.New(rand.NewSource(90))
	for many := 1; many <= 60; many++ {
		up := make([]int, many)
		for i := range up {
			up[i] = i
		}
		down := slices.Clone(up)
		slices.Reverse(down)
		for _, order := range [][]int{up, down, r.Perm(many)} {
			areEmpty(t, chain(order, nil), up...)
			areEmpty(t, chain(order, []api.Sym{{R: []api.Range{{Lo: 1, Hi: 1}}}}))
			areEmpty(t, chain(order, nons(order[0])))
			for i, n := range order[:many-1] {
				hasLefts(t, chain(order, nil), n, order[i+1])
			}
			// Broken in the middle, those ahead are not empty.
			middle := many / 2
			g := chain(order, nil)
			g.P[order[middle]].A[0] = append(nons(order[many-1]), api.Sym{Kind: api.Scal})
			areEmpty(t, g, slices.Sorted(slices.Values(order[middle+1:]))...)
			g.P[order[middle]].A = append(g.P[order[middle]].A, nil)
			areEmpty(t, g, up...)
		}
	}
}

// P9.1, P9.2: as many nonterminals, alternatives and symbols as there may be, of which each waits for the next one in all it has.
func TestMost(t *testing.T) {
	const many = api.MaxNon
	var all []int
	g := api.Gram{P: make([]api.Prod, many)}
	for n := range many {
		all = append(all, n)
		l := append(slices.Repeat(nons(many-1), api.MaxSym-1), non((n+1)%many))
		g.P[n] = prod(slices.Repeat([][]api.Sym{l}, api.MaxAlt)...)
	}
	areEmpty(t, g)
	for n := range many {
		hasLefts(t, g, n, many-1)
	}
	g.P[many-1].A[api.MaxAlt-1] = nil
	areEmpty(t, g, all...)
	for n := range many - 2 {
		hasLefts(t, g, n, n+1, many-1)
	}
	hasLefts(t, g, many-2, many-1)
	hasLefts(t, g, many-1, 0, many-1)
	// Of one, all are lefts.
	g = chain(all, nil)
	g.P[7] = prod(nons(all[:30]...), nil, nons(all[30:]...))
	hasLefts(t, g, 7, all...)
	isEmpty(t, g, nons(all...), true)
	isEmpty(t, g, nons(append(slices.Clone(all), many)...), false)
}

// P9.1, P9.2: marks, what may not follow, and words that are reserved change nothing.
func TestMarks(t *testing.T) {
	for _, s := range []string{`a = b c; b = ; c = "x";`, `a = b c | a; b = c |; c = ;`, `a = "x"* b "y"?; b = a b | ;`} {
		plain := gramOf(t, s)
		for marks := range 64 {
			for _, not := range [][]api.Range{nil, {}, {{Lo: 'x', Hi: 'x'}}, {{Lo: 0, Hi: api.MaxScalar}}} {
				g := gramOf(t, s)
				g.Keys = []string{"", "x", "\xff"}
				for n := range g.P {
					g.P[n].Marks, g.P[n].Not = marks, not
				}
				areEmpty(t, g, those(null.All(plain))...)
				for n := range g.P {
					hasLefts(t, g, n, null.Lefts(plain, n)...)
				}
			}
		}
	}
}

// P9.1, P9.2, R4: of nonterminals that may not be nothing is told, whatever else is right.
func TestWrongNonterminals(t *testing.T) {
	right := func() api.Gram {
		return api.Gram{P: []api.Prod{prod(nil), prod(nons(0, 1), nil)}}
	}
	areEmpty(t, right(), 0, 1)
	hasLefts(t, right(), 1, 0, 1)
	byteOf := func(lo, hi int) []api.Sym { return []api.Sym{{R: []api.Range{{Lo: lo, Hi: hi}}}} }
	for i, wear := range []func(g *api.Gram){
		func(g *api.Gram) { g.P = nil }, func(g *api.Gram) { g.P = []api.Prod{} }, func(g *api.Gram) { g.P = slices.Repeat([]api.Prod{prod(nil)}, 61) }, func(g *api.Gram) { g.P = append(g.P, api.Prod{}) },
		func(g *api.Gram) { g.P[0].A = nil }, func(g *api.Gram) { g.P[1].A = make([][]api.Sym, 9) }, func(g *api.Gram) { g.P[1].A[0] = slices.Repeat(nons(0), 41) },
		func(g *api.Gram) { g.P[0].Marks = -1 }, func(g *api.Gram) { g.P[1].Marks = 64 }, func(g *api.Gram) { g.P[1].Not = []api.Range{{Lo: 2, Hi: 1}} }, func(g *api.Gram) { g.P[0].Not = []api.Range{{Lo: 1, Hi: 2}, {Lo: 3, Hi: 4}} },
		func(g *api.Gram) { g.P[1].A[0] = nons(2) }, func(g *api.Gram) { g.P[1].A[0] = nons(-1) }, func(g *api.Gram) { g.P[1].A[0] = nons(0, 1, math.MaxInt) }, func(g *api.Gram) { g.P[0].A = append(g.P[0].A, nons(60)) },
		func(g *api.Gram) { g.P[1].A[0][0].R = []api.Range{{Lo: 1, Hi: 1}} }, func(g *api.Gram) { g.P[1].A[0][0].Kind = 3 }, func(g *api.Gram) { g.P[1].A[0][1].Kind = -1 }, func(g *api.Gram) { g.P[1].A[0][1].Kind = api.Byte },
		func(g *api.Gram) { g.P[1].A = append(g.P[1].A, byteOf(0, 256)) }, func(g *api.Gram) { g.P[1].A = append(g.P[1].A, byteOf(5, 4)) }, func(g *api.Gram) { g.P[1].A = append(g.P[1].A, byteOf(-1, 4)) },
	} {
		g := right()
		wear(&g)
		if l := null.All(g); len(l) != 0 {
			t.Errorf("worn %d: All(%s) = %v", i, short(g), l)
		}
		for n := -1; n <= 61; n++ {
			hasLefts(t, g, n)
			isEmpty(t, g, nons(n), false)
		}
		isEmpty(t, g, nil, false)
		isEmpty(t, g, []api.Sym{}, false)
		isEmpty(t, g, nons(0, 1), false)
	}
}
