package flat_test

import (
	"math"
	"math/rand"
	"reflect"
	"slices"
	"testing"

	"exegete/api"
	"exegete/flat"
)

// isMay fails the test if May tells anything else.
func isMay(t *testing.T, g api.Gram, want bool) {
	t.Helper()
	if flat.May(g) != want {
		t.Errorf("May(%s) = %v", short(g), !want)
	}
}

// among is nonterminals of nothing, with that one at a place.
func among(many, place int, p api.Prod) api.Gram {
	g := gram(slices.Repeat([]api.Prod{prod(nil)}, many)...)
	g.P[place] = p
	return g
}

// P8.2: no nonterminal, one, 60 and 61.
func TestMayMany(t *testing.T) {
	isMay(t, api.Gram{}, false)
	isMay(t, api.Gram{P: []api.Prod{}, Keys: []string{"k"}}, false)
	for many := 1; many <= 100; many++ {
		isMay(t, gram(slices.Repeat([]api.Prod{prod(nil)}, many)...), many <= 60)
	}
	// Words that are reserved may be any.
	for _, keys := range [][]string{nil, {}, {""}, {"k", "k"}, slices.Repeat([]string{"\xff"}, 99)} {
		isMay(t, api.Gram{P: []api.Prod{prod(nil)}, Keys: keys}, true)
	}
}

// P8.2: how many alternatives and symbols, which marks, and what may not follow, of whichever nonterminal.
func TestMayProd(t *testing.T) {
	eight := make([][]api.Sym, 8)
	forty := slices.Repeat(list(char('x')), 40)
	for _, c := range []struct {
		p    api.Prod
		want bool
	}{
		{api.Prod{}, false}, {api.Prod{A: [][]api.Sym{}}, false}, {prod(nil), true}, {prod(list()), true}, {prod(nil, nil), true},
		{prod(eight...), true}, {prod(append(eight, nil)...), false}, {prod(make([][]api.Sym, 1<<16)...), false},
		{prod(forty), true}, {prod(append(forty, char('x'))), false}, {prod(nil, forty, nil), true}, {prod(nil, append(forty, non(0))), false},
		{prod(slices.Repeat([][]api.Sym{forty}, 8)...), true}, {prod(make([]api.Sym, 1<<16)), false},
		{api.Prod{A: eight, Marks: 1}, true}, {api.Prod{A: eight, Marks: 63}, true}, {api.Prod{A: eight, Marks: 64}, false}, {api.Prod{A: eight, Marks: -1}, false},
		{api.Prod{A: eight, Marks: 1 << 32}, false}, {api.Prod{A: eight, Marks: math.MaxInt}, false}, {api.Prod{A: eight, Marks: math.MinInt}, false},
		{api.Prod{A: eight, Not: []api.Range{}}, true}, {api.Prod{A: eight, Not: pairs(1, 2, 4, 5)}, true}, {api.Prod{A: eight, Not: pairs(0, 1114111)}, true},
		{api.Prod{A: eight, Not: pairs(1, 2, 3, 4)}, false}, {api.Prod{A: eight, Not: pairs(4, 5, 1, 2)}, false}, {api.Prod{A: eight, Not: pairs(2, 1)}, false},
		{api.Prod{A: eight, Not: pairs(-1, 1)}, false}, {api.Prod{A: eight, Not: pairs(0, 1114112)}, false},
		{api.Prod{Marks: 1, Not: pairs(1, 2)}, false},
	} {
		isMay(t, gram(c.p), c.want)
		isMay(t, among(3, 1, c.p), c.want)
		isMay(t, among(60, 59, c.p), c.want)
	}
	for marks := -100; marks <= 200; marks++ {
		isMay(t, gram(api.Prod{A: eight, Marks: marks}), marks >= 0 && marks <= 63)
	}
}

// P8.2: each kind of symbol, of whichever alternative.
func TestMaySym(t *testing.T) {
	for _, c := range []struct {
		s    api.Sym
		want bool
	}{
		{api.Sym{}, true}, {byteOf(0, 0), true}, {byteOf(0, 255), true}, {byteOf(0, 9, 11, 255), true}, {byteOf(0, 256), false}, {byteOf(256, 256), false}, {byteOf(0, 9, 256, 300), false},
		{byteOf(5, 4), false}, {byteOf(-1, 4), false}, {byteOf(1, 2, 3, 4), false}, {byteOf(4, 5, 1, 2), false}, {byteOf(0, 1114111), false}, {byteOf(math.MinInt, math.MaxInt), false},
		{scal(), true}, {scal(0, 0), true}, {scal(0, 256), true}, {scal(0, 1114111), true}, {scal(55296, 57343), true}, {scal(0, 9, 11, 1114111), true}, {scal(0, 1114112), false},
		{scal(5, 4), false}, {scal(-1, 4), false}, {scal(1, 2, 3, 4), false}, {scal(4, 5, 1, 2), false},
		{api.Sym{Kind: api.Byte, N: 1}, false}, {api.Sym{Kind: api.Byte, R: pairs(1, 1), N: -1}, false}, {api.Sym{Kind: api.Scal, N: 1}, false}, {api.Sym{Kind: api.Scal, R: pairs(1, 1), N: 2}, false},
		{non(0), true}, {non(1), true}, {non(2), true}, {non(3), false}, {non(60), false}, {non(-1), false}, {non(math.MaxInt), false}, {non(math.MinInt), false},
		{api.Sym{Kind: api.Non, R: []api.Range{}}, true}, {api.Sym{Kind: api.Non, R: pairs(1, 1)}, false}, {api.Sym{Kind: api.Non, R: pairs(5, 4)}, false},
		{api.Sym{Kind: 3}, false}, {api.Sym{Kind: -1}, false}, {api.Sym{Kind: 256}, false}, {api.Sym{Kind: math.MaxInt}, false}, {api.Sym{Kind: math.MinInt}, false},
	} {
		x := char('x')
		for _, p := range []api.Prod{prod(list(c.s)), prod(list(x, c.s, x)), prod(nil, list(x), list(x, x, c.s))} {
			for place := range 3 {
				isMay(t, among(3, place, p), c.want)
			}
		}
	}
	// The last nonterminal, and one behind it, of each number of them.
	for many := 1; many <= 60; many++ {
		isMay(t, among(many, 0, prod(list(non(many-1)))), true)
		isMay(t, among(many, 0, prod(list(non(many)))), false)
	}
}

// changed is nonterminals, copied, of which one thing is another one, or is perhaps.
func changed(r *rand.Rand, g api.Gram) api.Gram {
	g = copied(g)
	if len(g.P) == 0 || r.Intn(10) == 0 {
		g.Keys = append(g.Keys, "more")
		return g
	}
	p := &g.P[r.Intn(len(g.P))]
	var s *api.Sym
	for _, l := range p.A {
		if len(l) > 0 {
			s = &l[r.Intn(len(l))]
		}
	}
	switch n := r.Intn(9); {
	case n == 0:
		p.Marks = r.Intn(70) - 3
	case n == 1:
		p.Not = pairs(r.Intn(9)-1, r.Intn(9), 9, 9)
	case n == 2:
		p.A = append(p.A, make([][]api.Sym, r.Intn(9))...)
	case n == 3:
		p.A = p.A[:r.Intn(len(p.A)+1)]
	case n == 4:
		g.P = append(g.P, slices.Repeat([]api.Prod{prod(nil)}, r.Intn(60))...)
	case s == nil:
		p.A = append(p.A, slices.Repeat(list(char('x')), 36+r.Intn(9)))
	case n == 5:
		s.Kind = r.Intn(6) - 1
	case n == 6:
		s.N = r.Intn(len(g.P)+3) - 1
	case n == 7:
		s.R = pairs(r.Intn(300)-1, r.Intn(300), 302, 303)[:r.Intn(3)]
	default:
		g.P = g.P[:r.Intn(len(g.P)+1)]
	}
	return g
}

// copied is nonterminals in memory of their own.
func copied(g api.Gram) api.Gram {
	out := api.Gram{Keys: slices.Clone(g.Keys)}
	for _, p := range g.P {
		p.Not = slices.Clone(p.Not)
		p.A = slices.Clone(p.A)
		for i := range p.A {
			p.A[i] = slices.Clone(p.A[i])
			for j := range p.A[i] {
				p.A[i][j].R = slices.Clone(p.A[i][j].R)
			}
		}
		out.P = append(out.P, p)
	}
	return out
}

// P8.2: of many nonterminals, with something changed, both calls tell what the other reckoning does.
func TestMayAndSameOfMany(t *testing.T) {
	r := rand.New(rand.NewSource(82))
	may, not, same, other := 0, 0, 0, 0
	for range 20000 {
		g, _, e := flat.Of(randomFile(r, 0))
		if e != api.OK {
			continue
		}
		h := changed(r, g)
		isMay(t, g, true)
		want := ownMay(h)
		isMay(t, h, want)
		alike := worded(g) == worded(h)
		if flat.Same(g, h) != alike || flat.Same(h, g) != alike || !flat.Same(h, copied(h)) {
			t.Fatalf("Same of %s and %s is not %v", short(g), short(h), alike)
		}
		if want {
			may++
		} else {
			not++
		}
		if alike {
			same++
		} else {
			other++
		}
	}
	if may < 500 || not < 500 || same < 200 || other < 500 {
		t.Error("few of a sort:", may, not, same, other)
	}
}

// P8.2: a change of each one part, or of an order, is told; no list is an empty one.
func TestSame(t *testing.T) {
	build := func() api.Gram {
		return api.Gram{Keys: []string{"k", "l"}, P: []api.Prod{
			{A: [][]api.Sym{list(byteOf(1, 2, 4, 5), non(1)), list(scal(7, 9)), nil}, Marks: 3, Not: pairs(1, 1, 3, 3)},
			{A: [][]api.Sym{list(non(0))}},
		}}
	}
	if g := build(); !flat.Same(g, g) || !flat.Same(g, build()) || !flat.Same(api.Gram{}, api.Gram{P: []api.Prod{}, Keys: []string{}}) {
		t.Error("what is the same is not")
	}
	for i, change := range []func(g *api.Gram){
		func(g *api.Gram) { g.Keys = nil }, func(g *api.Gram) { g.Keys = g.Keys[:1] }, func(g *api.Gram) { g.Keys[1] = "L" }, func(g *api.Gram) { slices.Reverse(g.Keys) }, func(g *api.Gram) { g.Keys = append(g.Keys, "") },
		func(g *api.Gram) { g.P = nil }, func(g *api.Gram) { g.P = g.P[:1] }, func(g *api.Gram) { g.P = append(g.P, api.Prod{}) }, func(g *api.Gram) { slices.Reverse(g.P) },
		func(g *api.Gram) { g.P[0].Marks = 2 }, func(g *api.Gram) { g.P[1].Marks = 64 }, func(g *api.Gram) { g.P[0].Not = nil }, func(g *api.Gram) { g.P[0].Not[1].Hi = 4 }, func(g *api.Gram) { g.P[0].Not[0].Lo = 0 },
		func(g *api.Gram) { slices.Reverse(g.P[0].Not) }, func(g *api.Gram) { g.P[1].Not = pairs(1, 1) },
		func(g *api.Gram) { g.P[0].A = nil }, func(g *api.Gram) { g.P[0].A = g.P[0].A[:2] }, func(g *api.Gram) { g.P[1].A = append(g.P[1].A, nil) }, func(g *api.Gram) { slices.Reverse(g.P[0].A) },
		func(g *api.Gram) { slices.Reverse(g.P[0].A[0]) }, func(g *api.Gram) { g.P[0].A[0] = g.P[0].A[0][:1] }, func(g *api.Gram) { g.P[0].A[2] = list(char('x')) },
		func(g *api.Gram) { g.P[0].A[1][0].Kind = api.Byte }, func(g *api.Gram) { g.P[0].A[0][1].N = 0 }, func(g *api.Gram) { g.P[0].A[0][0].N = 1 }, func(g *api.Gram) { g.P[0].A[0][1].R = pairs(1, 1) },
		func(g *api.Gram) { g.P[0].A[0][0].R[1].Hi = 6 }, func(g *api.Gram) { g.P[0].A[0][0].R[0].Lo = 0 }, func(g *api.Gram) { slices.Reverse(g.P[0].A[0][0].R) }, func(g *api.Gram) { g.P[0].A[1][0].R = nil },
		// The same numbers, in other ranges.
		func(g *api.Gram) { g.P[0].A[1][0].R = pairs(7, 8, 9, 9) },
	} {
		g, h := build(), build()
		change(&h)
		if flat.Same(g, h) || flat.Same(h, g) || !flat.Same(h, h) {
			t.Errorf("change %d is not told", i)
		}
	}
	for i, change := range []func(g *api.Gram){
		func(g *api.Gram) { g.P[1].Not = []api.Range{} }, func(g *api.Gram) { g.P[0].A[2] = []api.Sym{} }, func(g *api.Gram) { g.P[0].A[0][1].R = []api.Range{} }, func(g *api.Gram) { g.P = slices.Grow(g.P, 9) },
	} {
		g, h := build(), build()
		change(&h)
		if !flat.Same(g, h) || !flat.Same(h, g) {
			t.Errorf("change %d is told", i)
		}
	}
}

// span is memory, from one address up to another one.
type span struct{ from, upto uintptr }

// spans is the memory of all lists of a thing, with all that they have room for.
func spans(v reflect.Value) []span {
	var l []span
	switch v.Kind() {
	case reflect.Slice:
		if v.Cap() > 0 {
			l = append(l, span{v.Pointer(), v.Pointer() + uintptr(v.Cap())*v.Type().Elem().Size()})
		}
		for i := range v.Len() {
			l = append(l, spans(v.Index(i))...)
		}
	case reflect.Struct:
		for i := range v.NumField() {
			l = append(l, spans(v.Field(i))...)
		}
	}
	return l
}

// shares tells whether a memory is also of one of others.
func (s span) shares(others []span) bool {
	return slices.ContainsFunc(others, func(o span) bool { return s.from < o.upto && o.from < s.upto })
}

// roomy is a file with room behind each of its lists, in which something stands.
func roomy(f api.File) api.File {
	var part func(p api.Part) api.Part
	part = func(p api.Part) api.Part {
		p.R = slices.Concat(p.R, pairs(7, 7))[:len(p.R)]
		p.L = slices.Concat(p.L, []api.Part{text("behind")})[:len(p.L)]
		for i := range p.L {
			p.L[i] = part(p.L[i])
		}
		return p
	}
	f.Keys = slices.Concat(f.Keys, []string{"behind"})[:len(f.Keys)]
	f.R = slices.Concat(f.R, []api.Rule{rule("behind", seq())})[:len(f.R)]
	for i := range f.R {
		f.R[i].Not = slices.Concat(f.R[i].Not, pairs(7, 7))[:len(f.R[i].Not)]
		f.R[i].E = part(f.R[i].E)
	}
	return f
}

// whole is all of a file's lists, with what stands in the room behind them.
func whole(f api.File) string {
	var part func(p api.Part) string
	part = func(p api.Part) string {
		out := "(" + short([]any{p.Kind, p.Text, p.R[:cap(p.R)], p.At})
		for _, x := range p.L[:cap(p.L)] {
			out += part(x)
		}
		return out + ")"
	}
	out := short(f.Keys[:cap(f.Keys)])
	for _, r := range f.R[:cap(f.R)] {
		out += short([]any{r.Name, r.Marks, r.Not[:cap(r.Not)], r.At}) + part(r.E)
	}
	return out
}

// R3, R5: what is handed in stays, what is answered shares no memory with it, nor with itself, and is the same again.
func TestOwnMemory(t *testing.T) {
	r := rand.New(rand.NewSource(83))
	for i := range 2000 {
		f := roomy(randomFile(r, i%2*10))
		if i == 0 {
			f = roomy(readAs(t, `% "k"; a = ("x" [y-z] <01-02>)+ ([y-z]? | b)* / [q]; b = [y-z]+ / [q];`))
		}
		before := whole(f)
		g, place, e := flat.Of(f)
		flat.May(g)
		flat.Same(g, g)
		if whole(f) != before {
			t.Fatal("what is handed in is changed")
		}
		given, answered := spans(reflect.ValueOf(f)), spans(reflect.ValueOf(g))
		for j, s := range answered {
			if s.shares(given) || s.shares(answered[:j]) {
				t.Fatalf("of %s: an answer's list shares memory", short(f))
			}
		}
		h, placeH, eh := flat.Of(f)
		if place != placeH || e != eh || worded(g) != worded(h) {
			t.Fatal("asked again, it is another answer")
		}
	}
}

// P1, R1: nonterminals of any numbers are told to be none, or to be the same; both calls end.
func TestWild(t *testing.T) {
	r := rand.New(rand.NewSource(84))
	number := func() int {
		return []int{math.MinInt, -1, 0, 1, 2, 63, 64, 255, 256, 1114111, 1114112, math.MaxInt}[r.Intn(12)]
	}
	sets := func() []api.Range {
		var l []api.Range
		for range r.Intn(3) {
			l = append(l, api.Range{Lo: number(), Hi: number()})
		}
		return l
	}
	some := func() api.Gram {
		var g api.Gram
		for range r.Intn(4) {
			p := api.Prod{Marks: number(), Not: sets()}
			for range r.Intn(3) {
				var l []api.Sym
				for range r.Intn(3) {
					l = append(l, api.Sym{Kind: number(), R: sets(), N: number()})
				}
				p.A = append(p.A, l)
			}
			g.P = append(g.P, p)
		}
		return g
	}
	for range 20000 {
		a, b := some(), some()
		isMay(t, a, ownMay(a))
		if flat.Same(a, b) != (worded(a) == worded(b)) || !flat.Same(a, copied(a)) {
			t.Fatalf("Same of %s and %s", short(a), short(b))
		}
	}
}
