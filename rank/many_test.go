package rank_test

import (
	"math"
	"math/rand"
	"reflect"
	"slices"
	"testing"

	"exegete/api"
	"exegete/flat"
	"exegete/rank"
)

// asOwn fails the test if of nonterminals anything is told that the other reckoning does not.
func asOwn(t *testing.T, g api.Gram) {
	t.Helper()
	want, may := ownOrder(g)
	if l, is := rank.Order(g); is != may || !slices.Equal(l, want) {
		t.Fatalf("Order(%s) = %v, %v; want %v, %v", short(g), l, is, want, may)
	}
	if n := rank.Circle(g); n != ownCircle(g) {
		t.Fatalf("Circle(%s) = %d; want %d", short(g), n, ownCircle(g))
	}
}

// stands fails the test if nonterminals that may be have both an order and a circle, or neither, or if in the order one does not stand behind all it comes to.
func stands(t *testing.T, g api.Gram) {
	t.Helper()
	l, is := rank.Order(g)
	if is != (rank.Circle(g) == -1) {
		t.Fatalf("%s: an order %v, circle %d", short(g), is, rank.Circle(g))
	}
	if !is {
		return
	}
	if !slices.Equal(rank.First(l), upTo(len(g.P))) {
		t.Fatalf("Order(%s) = %v: not each is there once", short(g), l)
	}
	comes := ownComes(g)
	for i, n := range l {
		for _, m := range l[i:] {
			if comes[n][m] {
				t.Fatalf("Order(%s) = %v: %d comes to %d", short(g), l, n, m)
			}
		}
	}
}

// P10.2, P10.3: all three nonterminals of one or two alternatives of at most two symbols, of which some are empty.
func TestAllSmall(t *testing.T) {
	lists := [][]api.Sym{nil, {{R: []api.Range{{Lo: 'x', Hi: 'x'}}}}}
	for n := range 3 {
		lists = append(lists, nons(n), append(nons(n), lists[1]...))
		for m := range 3 {
			lists = append(lists, nons(n, m))
		}
	}
	orders, circles := 0, make([]int, 3)
	for _, a := range lists {
		for _, b := range lists {
			for _, c := range lists {
				for _, d := range [][]api.Sym{nil, lists[1], nons(0), nons(1, 2)} {
					g := api.Gram{P: []api.Prod{prod(a), prod(b, d), prod(c)}}
					asOwn(t, g)
					stands(t, g)
					if n := rank.Circle(g); n >= 0 {
						circles[n]++
					} else {
						orders++
					}
				}
			}
		}
	}
	if orders < 500 || slices.Min(circles) < 500 {
		t.Error("few of a sort:", orders, circles)
	}
}

// shuffled is nonterminals each of which begins by some that are ahead of it in a random order, with so many a thousand symbols of which that may not be so.
func shuffled(r *rand.Rand, many, alternatives, symbols, wild int) api.Gram {
	order, g := r.Perm(many), api.Gram{P: make([]api.Prod, many)}
	for i, n := range order {
		for range 1 + r.Intn(alternatives) {
			var a []api.Sym
			for range r.Intn(symbols + 1) {
				switch {
				case r.Intn(1000) < wild:
					a = append(a, nons(r.Intn(many))...)
				case i > 0 && r.Intn(5) > 0:
					a = append(a, nons(order[r.Intn(i)])...)
				default:
					a = append(a, api.Sym{Kind: r.Intn(2), R: []api.Range{{Lo: 'x', Hi: 'y'}}})
				}
			}
			g.P[n].A = append(g.P[n].A, a)
		}
	}
	return g
}

// P10.2, P10.3: many nonterminals, few and up to 60, are as the other reckoning says.
func TestRandom(t *testing.T) {
	r := rand.New(rand.NewSource(10))
	orders, circles := 0, 0
	for i := range 1500 {
		g := shuffled(r, 1+r.Intn([]int{4, 12, 60}[i%3]), 1+r.Intn(3), 1+r.Intn(4), []int{0, 20, 100, 300, 500}[r.Intn(5)])
		asOwn(t, g)
		stands(t, g)
		if rank.Circle(g) == -1 {
			orders++
		} else {
			circles++
		}
	}
	if orders < 400 || circles < 400 {
		t.Error("few of a sort:", orders, circles)
	}
	for range 3 {
		asOwn(t, shuffled(r, api.MaxNon, api.MaxAlt, api.MaxSym, 0))
	}
}

// P10.1: many numbers, few different ones and many, are as the other reckoning says.
func TestRandomFirst(t *testing.T) {
	r := rand.New(rand.NewSource(101))
	for range 20000 {
		var l []int
		apart := []int{1, 3, 10, 1 << 40, math.MaxInt}[r.Intn(5)]
		for range r.Intn(30) {
			l = append(l, r.Intn(apart)-r.Intn(apart))
		}
		if out := rank.First(l); !slices.Equal(out, ownFirst(l)) {
			t.Fatalf("First(%v) = %v; want %v", l, out, ownFirst(l))
		}
	}
}

// R3, R5: what is handed in stays, and what is answered is the caller's: asked again, it is the same, whatever became of it.
func TestOwnMemory(t *testing.T) {
	r := rand.New(rand.NewSource(102))
	for range 500 {
		seed := r.Int63()
		make1 := func() api.Gram { return shuffled(rand.New(rand.NewSource(seed)), 20, 2, 3, 5) }
		g := make1()
		l, is := rank.Order(g)
		told, circle := slices.Clone(l), rank.Circle(g)
		for i := range l[:cap(l)] {
			l[:cap(l)][i] = -7
		}
		if again, may := rank.Order(g); may != is || !slices.Equal(again, told) || rank.Circle(g) != circle {
			t.Fatal("asked again, it is another answer")
		}
		if !reflect.DeepEqual(g, make1()) {
			t.Fatal("what is handed in is changed")
		}
	}
}

// R3: numbers that are handed in stay, also those in the room behind them, and what is answered is the caller's.
func TestOwnNumbers(t *testing.T) {
	room := []int{5, 4, 9, 1, 77, 78}
	l := room[:4]
	out := rank.First(l)
	for i := range out[:cap(out)] {
		out[:cap(out)][i] = -7
	}
	if !slices.Equal(room, []int{5, 4, 9, 1, 77, 78}) {
		t.Error("what is handed in becomes", room)
	}
	one := []int{3}
	rank.First(one)[0] = 4
	if one[0] != 3 || !slices.Equal(rank.First(room[:4]), []int{1, 4, 5, 9}) {
		t.Error("asked again, it is another answer")
	}
	kept := rank.First(l)
	l[0] = 100
	if !slices.Equal(kept, []int{1, 4, 5, 9}) {
		t.Error("what was answered becomes", kept)
	}
}

// P1, R1: nonterminals of any numbers: all calls end, and tell nothing where they may not be.
func TestWild(t *testing.T) {
	r := rand.New(rand.NewSource(103))
	number := func() int {
		return []int{math.MinInt, -1, 0, 1, 2, 2, 2, 3, 64, 256, 1114112, math.MaxInt}[r.Intn(12)]
	}
	may, not := 0, 0
	for range 30000 {
		var g api.Gram
		for range r.Intn(4) {
			p := api.Prod{Marks: []int{0, 63, 5, number()}[r.Intn(4)], Not: [][]api.Range{nil, nil, nil, {{Lo: number(), Hi: number()}}}[r.Intn(4)]}
			for range r.Intn(3) {
				var a []api.Sym
				for range r.Intn(3) {
					a = append(a, api.Sym{Kind: []int{api.Non, api.Non, api.Non, api.Non, number()}[r.Intn(5)], N: []int{0, 1, 0, number()}[r.Intn(4)]})
				}
				p.A = append(p.A, a)
			}
			g.P = append(g.P, p)
		}
		asOwn(t, g)
		if flat.May(g) {
			stands(t, g)
			may++
		} else {
			not++
		}
	}
	if may < 1000 || not < 1000 {
		t.Error("few of a sort:", may, not)
	}
}
