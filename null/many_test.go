package null_test

import (
	"math"
	"math/rand"
	"reflect"
	"slices"
	"testing"

	"exegete/api"
	"exegete/flat"
	"exegete/null"
)

// asOwn fails the test if of nonterminals, or of symbols, anything is told that the other reckoning does not.
func asOwn(t *testing.T, g api.Gram, lists ...[]api.Sym) {
	t.Helper()
	want := ownEmpty(g)
	if l := null.All(g); !slices.Equal(l, want) {
		t.Fatalf("All(%s) = %v; want %v", short(g), l, want)
	}
	for n := -1; n <= len(g.P); n++ {
		if l := null.Lefts(g, n); !slices.Equal(l, ownLefts(g, n)) {
			t.Fatalf("Lefts(%s, %d) = %v; want %v", short(g), n, l, ownLefts(g, n))
		}
	}
	for _, l := range lists {
		if is := flat.May(g) && ownAll(want, l); null.Empty(g, l) != is {
			t.Fatalf("Empty(%s, %s) = %v", short(g), short(l), !is)
		}
	}
}

// asTrees fails the test if any others are empty than those that have a tree without a byte.
func asTrees(t *testing.T, g api.Gram) {
	t.Helper()
	for n, is := range null.All(g) {
		// The least tree has no nonterminal within itself, so that it has no more levels than there are nonterminals.
		l, has := ownTree(g, n, len(g.P))
		if has != is {
			t.Fatalf("%d of %s: empty %v, a tree %v", n, short(g), is, l)
		}
		if has && !ownHolds(g, n, l) {
			t.Fatalf("%d of %s: %v is no tree", n, short(g), l)
		}
	}
}

// smallAlternatives are all alternatives of at most two symbols: a byte, and two nonterminals.
func smallAlternatives() [][]api.Sym {
	syms := []api.Sym{{R: []api.Range{{Lo: 'x', Hi: 'x'}}}, non(0), non(1)}
	out := [][]api.Sym{nil}
	for _, a := range syms {
		out = append(out, []api.Sym{a})
		for _, b := range syms {
			out = append(out, []api.Sym{a, b})
		}
	}
	return out
}

// P9.1, P9.2, P9.3: all two nonterminals of at most two alternatives of at most two symbols.
func TestAllSmall(t *testing.T) {
	lists := smallAlternatives()
	var prods []api.Prod
	for _, a := range lists {
		prods = append(prods, prod(a))
		for _, b := range lists {
			prods = append(prods, prod(a, b))
		}
	}
	for _, a := range prods {
		for _, b := range prods {
			g := api.Gram{P: []api.Prod{a, b}}
			asOwn(t, g, lists...)
			asTrees(t, g)
			if l := null.All(g); !slices.Equal(l, ownLeast(g)) {
				t.Fatalf("All(%s) = %v; want %v", short(g), l, ownLeast(g))
			}
		}
	}
}

// randomSym is a symbol, of so many a thousand one that is no nonterminal.
func randomSym(r *rand.Rand, many, dull int) api.Sym {
	if r.Intn(1000) >= dull {
		return non(r.Intn(many))
	}
	return api.Sym{Kind: r.Intn(2), R: [][]api.Range{nil, {{Lo: 'x', Hi: 'x'}}, {{Lo: 0, Hi: 9}, {Lo: 11, Hi: 255}}}[r.Intn(3)]}
}

func randomSyms(r *rand.Rand, many, most, dull int) []api.Sym {
	var l []api.Sym
	for range r.Intn(most + 1) {
		l = append(l, randomSym(r, many, dull))
	}
	return l
}

// randomGram is so many nonterminals that may be, of at most so many alternatives, of at most so many symbols.
func randomGram(r *rand.Rand, many, alternatives, symbols, dull int) api.Gram {
	g := api.Gram{Keys: []string{"if"}[:r.Intn(2)]}
	for range many {
		p := api.Prod{Marks: r.Intn(64), Not: [][]api.Range{nil, {}, {{Lo: 0, Hi: api.MaxScalar}}}[r.Intn(3)]}
		for range 1 + r.Intn(alternatives) {
			l := randomSyms(r, many, symbols, dull)
			// Few alternatives without a symbol, so that there are chains.
			if len(l) == 0 && r.Intn(3) > 0 {
				l = append(l, randomSym(r, many, dull))
			}
			p.A = append(p.A, l)
		}
		g.P = append(g.P, p)
	}
	return g
}

// P9.1, P9.2: many nonterminals, few and up to 60, are as the other reckoning says.
func TestRandom(t *testing.T) {
	r := rand.New(rand.NewSource(9))
	empty, not, lefts := 0, 0, 0
	for i := range 6000 {
		g := randomGram(r, 1+r.Intn([]int{5, 20, 60}[i%3]), 1+r.Intn(3), 1+r.Intn(4), []int{50, 200, 500}[r.Intn(3)])
		many := len(g.P)
		asOwn(t, g, randomSyms(r, many, 3, 0), randomSyms(r, many, 6, 0), randomSyms(r, many+1, 3, 50), g.P[0].A[0])
		told := len(those(null.All(g)))
		empty, not, lefts = empty+told, not+many-told, lefts+len(null.Lefts(g, r.Intn(many)))
	}
	if empty < 10000 || not < 10000 || lefts < 5000 {
		t.Error("few of a sort:", empty, not, lefts)
	}
	for range 20 {
		asOwn(t, randomGram(r, 60, 8, 40, 20))
	}
}

// P9.3: just what is empty has a tree without a byte.
func TestTrees(t *testing.T) {
	r := rand.New(rand.NewSource(91))
	empty, not := 0, 0
	for range 20000 {
		g := randomGram(r, 1+r.Intn(5), 1+r.Intn(2), 1+r.Intn(3), 200)
		asTrees(t, g)
		if l := null.All(g); !slices.Equal(l, ownLeast(g)) {
			t.Fatalf("All(%s) = %v; want %v", short(g), l, ownLeast(g))
		}
		told := len(those(null.All(g)))
		empty, not = empty+told, not+len(g.P)-told
	}
	if empty < 5000 || not < 5000 {
		t.Error("few of a sort:", empty, not)
	}
	for _, s := range []string{`a = b c d | "x" e; b = ; c = b b | a; d = "y"; e = b* | e "z";`, `a = b+ c? | d; b = c c; c = "x"*; d = d;`, `a = b; b = c; c = d d; d = e? e?; e = e;`} {
		asTrees(t, gramOf(t, s))
	}
}

// roomy is nonterminals with room behind each of their lists, in which something stands.
func roomy(g api.Gram) api.Gram {
	g.P = slices.Concat(g.P, []api.Prod{{Marks: 7}})[:len(g.P)]
	for n := range g.P {
		a := slices.Concat(g.P[n].A, [][]api.Sym{nons(1, 2)})[:len(g.P[n].A)]
		for i := range a {
			a[i] = slices.Concat(a[i], nons(77))[:len(a[i])]
		}
		g.P[n].A = a
	}
	return g
}

// whole is all of the nonterminals' lists, with what stands in the room behind them.
func whole(g api.Gram) api.Gram {
	out := api.Gram{Keys: slices.Clone(g.Keys), P: slices.Clone(g.P[:cap(g.P)])}
	for n := range g.P {
		a := slices.Clone(g.P[n].A[:cap(g.P[n].A)])
		for i := range g.P[n].A {
			a[i] = slices.Clone(a[i][:cap(a[i])])
		}
		out.P[n].A = a
	}
	return out
}

// R3, R5: what is handed in stays, and what is answered is the caller's: asked again, it is the same, whatever became of it.
func TestOwnMemory(t *testing.T) {
	r := rand.New(rand.NewSource(92))
	for range 500 {
		g := roomy(randomGram(r, 1+r.Intn(20), 2, 3, 200))
		before := whole(g)
		all, symbols := null.All(g), slices.Concat(g.P[0].A[0], nons(0))[:len(g.P[0].A[0])]
		told, empty := slices.Clone(all), null.Empty(g, symbols)
		for n := range all[:cap(all)] {
			all[:cap(all)][n] = !all[:cap(all)][n]
		}
		for n := range g.P {
			lefts := null.Lefts(g, n)
			again := slices.Clone(lefts)
			for i := range lefts[:cap(lefts)] {
				lefts[:cap(lefts)][i] = -7
			}
			hasLefts(t, g, n, again...)
		}
		if !slices.Equal(null.All(g), told) || null.Empty(g, symbols) != empty || len(told) != len(g.P) {
			t.Fatal("asked again, it is another answer")
		}
		if !reflect.DeepEqual(whole(g), before) {
			t.Fatal("what is handed in is changed")
		}
	}
}

// P1, R1: nonterminals and symbols of any numbers, and any nonterminal asked for: all calls end, and tell nothing where they may not be.
func TestWild(t *testing.T) {
	r := rand.New(rand.NewSource(93))
	number := func() int {
		return []int{math.MinInt, -1, 0, 1, 2, 2, 2, 3, 64, 256, 1114112, math.MaxInt}[r.Intn(12)]
	}
	sets := func() []api.Range {
		return [][]api.Range{nil, nil, nil, {{Lo: number(), Hi: number()}}}[r.Intn(4)]
	}
	syms := func() []api.Sym {
		var l []api.Sym
		for range r.Intn(3) {
			l = append(l, api.Sym{Kind: []int{api.Non, api.Non, api.Non, number()}[r.Intn(4)], R: sets(), N: []int{0, 1, number()}[r.Intn(3)]})
		}
		return l
	}
	may, not := 0, 0
	for range 30000 {
		var g api.Gram
		for range r.Intn(4) {
			p := api.Prod{Marks: []int{0, 63, number()}[r.Intn(3)], Not: sets()}
			for range r.Intn(4) {
				p.A = append(p.A, syms())
			}
			g.P = append(g.P, p)
		}
		asOwn(t, g, nil, syms(), syms(), nons(number()))
		if n := number(); !slices.Equal(null.Lefts(g, n), ownLefts(g, n)) {
			t.Fatalf("Lefts(%s, %d)", short(g), n)
		}
		if flat.May(g) {
			may++
		} else {
			not++
		}
	}
	if may < 1000 || not < 1000 {
		t.Error("few of a sort:", may, not)
	}
}
