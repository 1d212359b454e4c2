package strata_test

import (
	"fmt"
	"math"
	"slices"
	"testing"

	"exegete/api"
	"exegete/flat"
	"exegete/read"
	"exegete/strata"
)

// The calls have the signatures of the chapter.
var (
	_ func(p api.Prod) bool          = strata.Filter
	_ func(g api.Gram) int           = strata.Bad
	_ func(g api.Gram) int           = strata.Laid
	_ func(g api.Gram) ([]int, bool) = strata.Order
)

// gramOf is the nonterminals of a grammar's text.
func gramOf(t *testing.T, s string) api.Gram {
	t.Helper()
	f, at, e := read.File(s)
	if e != api.OK {
		t.Fatalf("%s is not read: %d, %d", s, at, e)
	}
	g, at, e := flat.Of(f)
	if e != api.OK {
		t.Fatalf("%s is not made: %d, %d", s, at, e)
	}
	return g
}

// nons is symbols that are nonterminals.
func nons(l ...int) []api.Sym {
	var out []api.Sym
	for _, n := range l {
		out = append(out, api.Sym{Kind: api.Non, N: n})
	}
	return out
}

// prod is a nonterminal of marks, of one alternative of nonterminals.
func prod(marks int, l ...int) api.Prod {
	return api.Prod{A: [][]api.Sym{nons(l...)}, Marks: marks}
}

// short is a thing's beginning, so that a failure can be read.
func short(x any) string {
	s := fmt.Sprintf("%+v", x)
	return s[:min(len(s), 600)]
}

// upTo are the numbers from 0 on.
func upTo(many int) []int {
	var l []int
	for n := range many {
		l = append(l, n)
	}
	return l
}

func isBad(t *testing.T, g api.Gram, want int) {
	t.Helper()
	if n := strata.Bad(g); n != want {
		t.Errorf("Bad(%s) = %d; want %d", short(g), n, want)
	}
}

func isLaid(t *testing.T, g api.Gram, want int) {
	t.Helper()
	if n := strata.Laid(g); n != want {
		t.Errorf("Laid(%s) = %d; want %d", short(g), n, want)
	}
}

// stand fails the test if the order is not this.
func stand(t *testing.T, g api.Gram, want ...int) {
	t.Helper()
	if l, is := strata.Order(g); !is || !slices.Equal(l, want) {
		t.Errorf("Order(%s) = %v, %v; want %v, true", short(g), l, is, want)
	}
}

// standNot fails the test if there is an order, or anything is told beside that there is none.
func standNot(t *testing.T, g api.Gram) {
	t.Helper()
	if l, is := strata.Order(g); is || len(l) != 0 {
		t.Errorf("Order(%s) = %v, %v; want nothing, false", short(g), l, is)
	}
}

// tellNothing fails the test if anything is told of nonterminals that may not be.
func tellNothing(t *testing.T, g api.Gram) {
	t.Helper()
	isBad(t, g, -1)
	isLaid(t, g, -1)
	standNot(t, g)
}

// P12.1, P12.2: the chapter's example.
func TestExample(t *testing.T) {
	g := gramOf(t, `@long a = "x" b; b = "y" a | ;`)
	isBad(t, g, 0)
	isLaid(t, g, -1)
	standNot(t, g)
}

// P12.1: who has a filter, by marks and by what may not follow.
func TestFilter(t *testing.T) {
	some := []api.Range{{Lo: 'a', Hi: 'z'}}
	for _, c := range []struct {
		p   api.Prod
		has bool
	}{
		{api.Prod{}, false}, {api.Prod{Marks: api.Long}, true}, {api.Prod{Marks: api.Res}, true}, {api.Prod{Marks: api.Long | api.Res}, true},
		{api.Prod{Marks: api.Off}, false}, {api.Prod{Marks: api.Block}, false}, {api.Prod{Marks: api.Align}, false}, {api.Prod{Marks: api.Sync}, false}, {api.Prod{Marks: api.Off | api.Block | api.Align | api.Sync}, false},
		{api.Prod{Not: some}, true}, {api.Prod{Not: []api.Range{}}, false}, {api.Prod{Not: []api.Range{{}}}, true}, {api.Prod{Not: []api.Range{{Lo: 0, Hi: api.MaxScalar}}}, true}, {api.Prod{Not: some, Marks: api.Long}, true}, {api.Prod{Not: some, Marks: api.Sync | api.Align}, true},
		// Its alternatives are not asked, nor whether it may be.
		{api.Prod{A: [][]api.Sym{nil, nons(0)}}, false}, {api.Prod{A: [][]api.Sym{nons(7, -7)}, Marks: api.Long}, true}, {api.Prod{Not: []api.Range{{Lo: 5, Hi: 3}}}, true}, {api.Prod{Not: []api.Range{{Lo: -2, Hi: -1}, {}}}, true},
		{api.Prod{Marks: 64}, false}, {api.Prod{Marks: 64 + api.Long}, true}, {api.Prod{Marks: 1<<40 + api.Res}, true}, {api.Prod{Marks: -1}, true}, {api.Prod{Marks: -4}, false}, {api.Prod{Marks: math.MinInt}, false}, {api.Prod{Marks: math.MaxInt}, true},
	} {
		if strata.Filter(c.p) != c.has {
			t.Errorf("Filter(%+v) = %v", c.p, !c.has)
		}
	}
	for marks := range 64 {
		has := marks%4 != 0
		if strata.Filter(api.Prod{Marks: marks}) != has || !strata.Filter(api.Prod{Marks: marks, Not: some}) {
			t.Errorf("Filter of marks %d = %v", marks, !has)
		}
	}
}

// P12.1: who is bad: by itself, by others, by one to begin anew at, and the least of several.
func TestBad(t *testing.T) {
	for _, c := range []struct {
		s    string
		want int
	}{
		// None has a filter, whoever is within itself, or has one within to begin anew at.
		{`a = ;`, -1}, {`a = a;`, -1}, {`a = "x" a | ;`, -1}, {`a = b; @sync b = a;`, -1}, {`@sync @off @block @align a = a;`, -1},
		// One has, and nobody is within itself.
		{`@long a = "x";`, -1}, {`@res a = b c; b = "x"; c = b;`, -1}, {`a = b / [x]; @long b = c; @res c = "x";`, -1},
		// One with a filter is its own symbol, wherever it stands, and by each filter.
		{`@long a = a;`, 0}, {`@res a = "x" a;`, 0}, {`a = "x" | "y" a "z" / [a];`, 0}, {`@long @res a = | | a / [];`, 0}, {`a = b; @long b = "x" b | ;`, 1}, {`a = a / [];`, -1},
		// One is within itself by others.
		{`@long a = b; b = a;`, 0}, {`a = b; @long b = a;`, 1}, {`a = b; b = c; @res c = "x" a | ;`, 2}, {`a = b; b = c | "x"; c = d; d = "y" b / [a];`, 3}, {`@long a = b*; b = "x" | "(" a ")";`, 0}, {`a = "x"; b = c; @long c = b;`, 2},
		// One with a filter has one within that is within itself, and is not.
		{`@long a = b; b = "x" b | ;`, -1}, {`@long a = "x"*;`, -1}, {`@long a = b; b = c; c = b | ; d = a;`, -1}, {`a = b a; @long b = "x";`, -1},
		// One to begin anew at is within one with a filter, near or far, and whatever else it has.
		{`@long a = b; @sync b = "x";`, 0}, {`a = b; @long b = c; @sync c = "x";`, 1}, {`@res a = b; b = "x" | c; c = d?; @sync d = ;`, 0}, {`a = b / [a]; @sync @long b = "x";`, 0}, {`@long a = "x"* b; @sync @off b = "x";`, 0}, {`a = "x"; @sync b = a; @long c = b;`, 2},
		// The filter's own place to begin anew at is not within it.
		{`@long @sync a = "x";`, -1}, {`@sync a = b / [a]; b = "x";`, -1}, {`@long @sync a = b; @res @sync b = "x";`, 0}, {`@long @sync a = a;`, 0}, {`@long @sync a = b; b = a;`, 0},
		// One to begin anew at is around one with a filter, or beside it.
		{`@sync a = b; @long b = "x";`, -1}, {`a = b c; @long b = "x"; @sync c = b;`, -1}, {`a = b; b = a c | ; @res c = "x"; @sync d = a;`, -1},
		// The least of several, also where it is bad by others.
		{`@long a = a; @long b = b; @long c = c;`, 0}, {`a = "x"; @long b = b; @res c = c;`, 1}, {`@long a = b; b = "x"; @long c = d; @sync d = ; @long e = e;`, 2}, {`@long a = b; @res b = a;`, 0}, {`a = b; @res b = c; c = a | d / [a]; @sync d = ;`, 1},
		// The last one, and one that is behind some that are not.
		{`@long a = "x"; @res b = a; c = b; d = d / [a];`, 3}, {`@long a = b; @long b = c; @long c = "x"; @long d = e; @sync e = ; @long f = a;`, 3},
	} {
		isBad(t, gramOf(t, c.s), c.want)
	}
}

// P12.1: who is laid: by itself, by one within it, and the least of several.
func TestLaid(t *testing.T) {
	for _, c := range []struct {
		s    string
		want int
	}{
		{`a = ;`, -1}, {`@long a = "x";`, -1}, {`@long @res @sync a = b; @sync b = a / [x];`, -1}, {`a = b; @long b = c; c = "x";`, -1},
		// One has both itself, each of both.
		{`@long @off a = "x";`, 0}, {`@long @block a = "x";`, 0}, {`@long @align a = "x";`, 0}, {`@res @off a = "x";`, 0}, {`@res @block @align a = ;`, 0}, {`@off a = "x" / [a];`, 0}, {`@block a = "x" / [a];`, 0}, {`@align @sync a = "x" / [a];`, 0}, {`a = b; b = c; @res @block c = "x";`, 2},
		// One that has is within, near or far, and of each sort.
		{`@long a = b; @off b = "x";`, 0}, {`@long a = b; @block b = "x";`, 0}, {`@res a = b; @align b = "x";`, 0}, {`a = b / [a]; b = "x" c*; c = | d; @align d = "x";`, 0}, {`a = b; @res b = c; c = d; @off @sync d = "x";`, 1}, {`@long a = [] b; @off b = "x";`, 0},
		// Layout without a filter within which it is: alone, around one, and beside it.
		{`@off @block @align a = a;`, -1}, {`@off a = b; @long b = "x";`, -1}, {`@block a = b c; @long b = "x"; @align c = b;`, -1}, {`a = b c; @align b = ; @long c = "x";`, -1},
		// By one another, one that has is within.
		{`@long a = b; @off b = a | ;`, 0}, {`@off a = b; @long b = a | ;`, 1},
		// The least of several, and of these the last one.
		{`@long @off a = b; @res @block b = "x";`, 0}, {`@off a = b; @long b = c; @long @align c = "x";`, 1}, {`@long a = "x"; @off b = a; @long c = b; @long d = c;`, 2}, {`@long a = "x"; @off b = a; @res c = a; d = b / [x];`, 3}, {`@block a = d c; @long b = "x"; @align c = b; @long @off d = "x";`, 3},
		// What is bad is not asked.
		{`@long a = a; @off b = a;`, -1}, {`@long @sync @off a = a;`, 0},
	} {
		isLaid(t, gramOf(t, c.s), c.want)
	}
}

// P12.2: in which order those with filters stand, if there is one.
func TestOrder(t *testing.T) {
	for _, c := range []struct {
		s    string
		want []int
	}{
		// None has a filter, also where one is within itself.
		{`a = ;`, nil}, {`a = "x" a | ;`, nil}, {`@off @sync a = b; @block @align b = a;`, nil}, {`a = "x"*;`, nil}, {`a = a / [];`, nil},
		// One has.
		{`@long a = "x";`, []int{0}}, {`a = b; @res b = "x";`, []int{1}}, {`a = b; b = c a | ; c = d / [a]; d = d;`, []int{2}}, {`@long a = "x"*;`, []int{0}},
		// Several within one another, in order and against it, near and far.
		{`@long a = ; @long b = a; @long c = b;`, []int{0, 1, 2}}, {`@long a = b; @long b = c; @long c = "x";`, []int{2, 1, 0}}, {`@long a = b; @res b = c / [a]; c = "x";`, []int{1, 0}}, {`@long a = b; b = c; c = d*; d = "x" / [y];`, []int{3, 0}}, {`@long a = c; @res b = "x"; c = b / [a];`, []int{1, 2, 0}}, {`@res a = "x"; b = a / [x]; c = b; d = c; @long e = d;`, []int{0, 1, 4}},
		// Several may be next at once: the least one is.
		{`@long a = ; @long b = ; @long c = ;`, []int{0, 1, 2}}, {`@long a = d; @long b = ; @long c = ; @long d = ;`, []int{1, 2, 3, 0}}, {`@long a = e; @res b = d; @long c = ; @res d = ; @long e = ;`, []int{2, 3, 1, 4, 0}}, {`@long a = c; @res b = c; @long c = ; @res d = ;`, []int{2, 0, 1, 3}}, {`@long a = b c; @long b = d; @long c = d; @long d = ;`, []int{3, 1, 2, 0}}, {`@res a = b; @res b = e; @res c = ; @res d = b; @res e = c;`, []int{2, 4, 1, 0, 3}},
		// Others are within themselves, and hold some with filters, or are held by them.
		{`a = a b | c; @long b = d; @res c = b; d = d | ;`, []int{1, 2}}, {`@long a = b; b = c; c = b d; @res d = "x";`, []int{3, 0}}, {`a = b; b = a c | ; @res c = d; @long d = ; @sync e = a;`, []int{3, 2}},
		// Bad, or laid, by no more than one to begin anew at, or layout.
		{`@long a = b; @sync b = "x";`, []int{0}}, {`@long a = b; @long @sync b = "x";`, []int{1, 0}}, {`a = b; @res b = c / [a]; @off @sync c = d; @long @align d = ;`, []int{3, 1}},
	} {
		stand(t, gramOf(t, c.s), c.want...)
	}
	for _, s := range []string{
		`@long a = a;`, `@res a = "x" a | ;`, `a = a | "x" / [a];`, `@long a = b; b = a;`, `a = b; @long b = a;`, `@long a = b; @res b = c; c = a / [a];`, `a = b; b = c; @res c = d | ; d = b;`,
		// Others with filters are not within themselves: nothing is told all the same.
		`@long a = "x"; @long b = b; @long c = a;`, `@long a = "x"; @long b = a; @res c = b c | ;`, `@long a = a; @long b = ; @long c = b;`, `@long a = b; @long b = b;`, `@long a = b; @long b = c | ; @long c = b; @sync d = ;`,
	} {
		standNot(t, gramOf(t, s))
	}
}

// chain is nonterminals of a mark, of which each has the one of the next number in order, and the last one in order has some more.
func chain(order []int, mark int, last ...int) api.Gram {
	g := api.Gram{P: make([]api.Prod, len(order))}
	for i, n := range order {
		if i+1 < len(order) {
			g.P[n] = prod(mark, order[i+1])
		} else {
			g.P[n] = prod(mark, last...)
		}
	}
	return g
}

// P12.1, P12.2: chains of up to 60, in order and against it, open and closed, at each of whose places something is wrong.
func TestChains(t *testing.T) {
	for _, many := range []int{1, 2, 3, 30, 59, 60} {
		up := upTo(many)
		down := slices.Clone(up)
		slices.Reverse(down)
		for _, order := range [][]int{up, down} {
			g := chain(order, api.Long)
			isBad(t, g, -1)
			isLaid(t, g, -1)
			ahead := slices.Clone(order)
			slices.Reverse(ahead)
			stand(t, g, ahead...)
			isBad(t, chain(order, api.Res, order[0]), 0)
			standNot(t, chain(order, api.Res, order[0]))
			for i, n := range order {
				// All ahead of this one have it within, and it alone has layout, or begins anew.
				g = chain(order, api.Res)
				g.P[n].Marks |= api.Sync
				least := -1
				if i > 0 {
					least = slices.Min(order[:i])
				}
				isBad(t, g, least)
				stand(t, g, ahead...)
				g.P[n].Marks = api.Long | api.Block
				isLaid(t, g, slices.Min(order[:i+1]))
				g.P[n].Marks = api.Align
				isLaid(t, g, least)
				stand(t, g, slices.DeleteFunc(slices.Clone(ahead), func(m int) bool { return m == n })...)
				// It is the only one with a filter, and then is closed.
				g = chain(order, api.Off|api.Sync)
				g.P[n].Marks |= api.Long
				least = n
				if i == many-1 {
					least = -1
				}
				isBad(t, g, least)
				isLaid(t, g, n)
				stand(t, g, n)
				g = chain(order, 0, order[0])
				g.P[n].Not = []api.Range{{Lo: 'a', Hi: 'a'}}
				isBad(t, g, n)
				isLaid(t, g, -1)
				standNot(t, g)
			}
		}
	}
}

// P12.1, P12.2: 60 nonterminals with a filter each, without one another, and as many alternatives and symbols as there may be.
func TestFull(t *testing.T) {
	const many = api.MaxNon
	alone := api.Gram{P: slices.Repeat([]api.Prod{prod(api.Res)}, many)}
	isBad(t, alone, -1)
	isLaid(t, alone, -1)
	stand(t, alone, upTo(many)...)
	full := func() api.Gram {
		var g api.Gram
		for n := range many - 1 {
			l := append(slices.Repeat(nons(n+1), api.MaxSym-1), nons(many-1)...)
			g.P = append(g.P, api.Prod{Marks: api.Long, A: slices.Repeat([][]api.Sym{l}, api.MaxAlt)})
		}
		return api.Gram{P: append(g.P, api.Prod{Marks: api.Long, A: slices.Repeat([][]api.Sym{{{R: []api.Range{{Lo: 0, Hi: 255}}}}}, api.MaxAlt)})}
	}
	g := full()
	isBad(t, g, -1)
	isLaid(t, g, -1)
	down := upTo(many)
	slices.Reverse(down)
	stand(t, g, down...)
	for one := range many {
		g := full()
		g.P[one].A[api.MaxAlt-1] = nons(one)
		isBad(t, g, one)
		standNot(t, g)
		g = api.Gram{P: slices.Clone(alone.P)}
		g.P[one].Marks |= api.Align
		isLaid(t, g, one)
		// It has all others within it, so that it stands behind them.
		others := slices.Delete(upTo(many), one, one+1)
		g.P[one].A = [][]api.Sym{nil, nons(others[:api.MaxSym]...), nons(others[api.MaxSym:]...)}
		stand(t, g, append(others, one)...)
	}
}

// P12.1, P12.2, R4: of nonterminals that may not be nothing is told, whatever else is wrong, or right.
func TestWrongNonterminals(t *testing.T) {
	right := func() api.Gram {
		return api.Gram{P: []api.Prod{prod(api.Long|api.Off, 1), prod(api.Sync | api.Block)}}
	}
	isBad(t, right(), 0)
	isLaid(t, right(), 0)
	stand(t, right(), 0)
	symbol := func(kind, n, lo, hi int) []api.Sym {
		return []api.Sym{{Kind: kind, N: n, R: []api.Range{{Lo: lo, Hi: hi}}}}
	}
	for i, wear := range []func(g *api.Gram){
		func(g *api.Gram) { g.P = nil }, func(g *api.Gram) { g.P = []api.Prod{} }, func(g *api.Gram) { g.P = slices.Repeat([]api.Prod{prod(api.Long)}, 61) }, func(g *api.Gram) { g.P = append(g.P, slices.Repeat([]api.Prod{prod(api.Res, 1)}, 59)...) }, func(g *api.Gram) { g.P = slices.Repeat(g.P, 100) }, func(g *api.Gram) { g.P = append(g.P, api.Prod{}) },
		func(g *api.Gram) { g.P[0].A = nil }, func(g *api.Gram) { g.P[1].A = [][]api.Sym{} }, func(g *api.Gram) { g.P[1].A = make([][]api.Sym, 9) }, func(g *api.Gram) { g.P[0].A[0] = slices.Repeat(nons(1), 41) },
		func(g *api.Gram) { g.P[0].Marks = -1 }, func(g *api.Gram) { g.P[1].Marks = 64 }, func(g *api.Gram) { g.P[0].Marks |= 64 }, func(g *api.Gram) { g.P[1].Marks = math.MinInt }, func(g *api.Gram) { g.P[1].Not = []api.Range{{Lo: 2, Hi: 1}} }, func(g *api.Gram) { g.P[0].Not = []api.Range{{Lo: 1, Hi: 2}, {Lo: 3, Hi: 4}} }, func(g *api.Gram) { g.P[0].Not = []api.Range{{Lo: 0, Hi: api.MaxScalar + 1}} },
		func(g *api.Gram) { g.P[0].A[0] = nons(1, 2) }, func(g *api.Gram) { g.P[1].A[0] = nons(-1) }, func(g *api.Gram) { g.P[1].A[0] = nons(0, math.MaxInt) }, func(g *api.Gram) { g.P[0].A = append(g.P[0].A, nons(60)) }, func(g *api.Gram) { g.P[0].A = append(g.P[0].A, nons(math.MinInt)) },
		func(g *api.Gram) { g.P[0].A[0] = symbol(api.Non, 1, 1, 1) }, func(g *api.Gram) { g.P[0].A[0][0].Kind = 3 }, func(g *api.Gram) { g.P[0].A[0][0].Kind = -1 }, func(g *api.Gram) { g.P[0].A[0][0].Kind = api.Byte }, func(g *api.Gram) { g.P[0].A[0] = symbol(api.Scal, 1, 1, 1) },
		func(g *api.Gram) { g.P[0].A = append(g.P[0].A, symbol(api.Byte, 0, 0, 256)) }, func(g *api.Gram) { g.P[0].A = append(g.P[0].A, symbol(api.Byte, 0, 5, 4)) }, func(g *api.Gram) { g.P[1].A[0] = symbol(api.Scal, 0, -1, 4) }, func(g *api.Gram) { g.P[1].A[0] = symbol(api.Scal, 0, 0, api.MaxScalar+1) },
	} {
		g := right()
		wear(&g)
		if flat.May(g) {
			t.Errorf("worn %d: %s may be", i, short(g))
		}
		tellNothing(t, g)
	}
}
