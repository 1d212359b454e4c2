package rank

import (
	"slices"

	"exegete/api"
	"exegete/null"
)

// kin is who begins by whom: of each nonterminal its lefts, and those of which it is one.
type kin struct {
	lefts, of [][]int
}

func kinOf(g api.Gram) kin {
	k := kin{lefts: make([][]int, len(g.P)), of: make([][]int, len(g.P))}
	for n := range g.P {
		k.lefts[n] = null.Lefts(g, n)
		for _, left := range k.lefts[n] {
			k.of[left] = append(k.of[left], n)
		}
	}
	return k
}

// order are the nonterminals, each behind all its lefts, as far as there is such an order.
func (k kin) order() []int {
	w := walk{kin: k, wait: make([]int, len(k.lefts))}
	for n, l := range k.lefts {
		w.wait[n] = len(l)
		if len(l) == 0 {
			w.next.put(n)
		}
	}
	return w.run((*walk).free)
}

// to are the nonterminals that one comes to.
func (k kin) to(n int) []int {
	w := walk{kin: k, seen: make([]bool, len(k.lefts))}
	w.spread(n)
	return w.run((*walk).spread)
}

// isCircle tells whether a nonterminal comes to itself.
func (k kin) isCircle(n int) bool {
	return slices.Contains(k.to(n), n)
}

// walk goes from nonterminal to nonterminal: who may be next is in a queue, and each step lets others into it.
type walk struct {
	kin
	next queue
	wait []int  // how many lefts of each are not there yet
	seen []bool // who was in the queue
}

// run takes who may be next, one by one, the least one first, and goes a step on from each.
func (w *walk) run(step func(*walk, int)) []int {
	var out []int
	for w.next.Len() > 0 {
		n := w.next.take()
		out = append(out, n)
		step(w, n)
	}
	return out
}

// stay lets nobody in.
func (w *walk) stay(int) {}

// free lets those in all lefts of which are there, now that this one is.
func (w *walk) free(n int) {
	each(w.of[n], w.waitsNoMore, w.next.put)
}

// spread lets a nonterminal's lefts in.
func (w *walk) spread(n int) {
	each(w.lefts[n], w.isNew, w.next.put)
}

// waitsNoMore tells whether the left that is there now was the last one.
func (w *walk) waitsNoMore(n int) bool {
	w.wait[n]--
	return w.wait[n] == 0
}

func (w *walk) isNew(n int) bool {
	was := w.seen[n]
	w.seen[n] = true
	return !was
}

// each hands on those numbers that are so.
func each(l []int, is func(int) bool, then func(int)) {
	for _, n := range l {
		if is(n) {
			then(n)
		}
	}
}
