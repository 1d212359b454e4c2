package strata_test

import (
	"slices"

	"exegete/api"
	"exegete/flat"
)

// Another reckoning of the chapter, word by word: who is within whom by a table of all pairs, filters and layout mark by mark,
// the order by a look at all nonterminals for each one of it; and where texts end, with filters and without.

// ownWithin tells of each two nonterminals that may be whether the second one is within the first.
func ownWithin(g api.Gram) [][]bool {
	within := make([][]bool, len(g.P))
	for n, p := range g.P {
		within[n] = make([]bool, len(g.P))
		for _, s := range slices.Concat(p.A...) {
			if s.Kind == api.Non {
				within[n][s.N] = true
			}
		}
	}
	for by := range within {
		for n := range within {
			for m := range within {
				within[n][m] = within[n][m] || within[n][by] && within[by][m]
			}
		}
	}
	return within
}

// ownIsSet tells whether one of some marks is set: bits by 2, by 4, and so on.
func ownIsSet(marks int, some ...int) bool {
	return slices.ContainsFunc(some, func(mark int) bool { return marks/mark%2 == 1 })
}

func ownFilter(p api.Prod) bool {
	return ownIsSet(p.Marks, api.Long, api.Res) || len(p.Not) > 0
}

func ownLayout(p api.Prod) bool {
	return ownIsSet(p.Marks, api.Off, api.Block, api.Align)
}

// ownLeast is the least nonterminal with a filter that is so itself, or within which one is that is so.
func ownLeast(g api.Gram, itself, inside func(n, m int) bool) int {
	if !flat.May(g) {
		return -1
	}
	within := ownWithin(g)
	for n, p := range g.P {
		for m := range g.P {
			if ownFilter(p) && (itself(n, m) || within[n][m] && inside(n, m)) {
				return n
			}
		}
	}
	return -1
}

func ownBad(g api.Gram) int {
	return ownLeast(g, func(n, m int) bool { return false }, func(n, m int) bool { return n == m || ownIsSet(g.P[m].Marks, api.Sync) })
}

func ownLaid(g api.Gram) int {
	return ownLeast(g, func(n, m int) bool { return ownLayout(g.P[n]) }, func(n, m int) bool { return ownLayout(g.P[m]) })
}

// ownCircle is the least nonterminal with a filter that is within itself.
func ownCircle(g api.Gram) int {
	return ownLeast(g, func(n, m int) bool { return false }, func(n, m int) bool { return n == m })
}

func ownOrder(g api.Gram) ([]int, bool) {
	if !flat.May(g) || ownCircle(g) >= 0 {
		return nil, false
	}
	var out []int
	within := ownWithin(g)
	waits := func(n int) bool { return ownFilter(g.P[n]) && !slices.Contains(out, n) }
	for range g.P {
		for n := range g.P {
			if waits(n) && !slices.ContainsFunc(upTo(len(g.P)), func(m int) bool { return within[n][m] && waits(m) }) {
				out = append(out, n)
				break
			}
		}
	}
	return out, true
}

// spot is a nonterminal, and where it begins.
type spot struct{ n, from int }

// reader finds out where texts of nonterminals end in bytes, of which none comes to itself.
type reader struct {
	g     api.Gram
	w     []byte
	known map[spot][]int
}

// ends is where a nonterminal ends that its filter lets be.
func (r reader) ends(n, from int) []int {
	if l, is := r.known[spot{n, from}]; is {
		return l
	}
	var l []int
	for _, a := range r.g.P[n].A {
		l = append(l, r.after(a, from)...)
	}
	slices.Sort(l)
	l = slices.Compact(l)
	p := r.g.P[n]
	if ownIsSet(p.Marks, api.Long) && len(l) > 0 {
		l = l[len(l)-1:]
	}
	l = slices.DeleteFunc(l, func(upto int) bool {
		reserved := ownIsSet(p.Marks, api.Res) && slices.Contains(r.g.Keys, string(r.w[from:upto]))
		return reserved || upto < len(r.w) && isOf(p.Not, r.w[upto])
	})
	r.known[spot{n, from}] = l
	return l
}

// after is where symbols end.
func (r reader) after(l []api.Sym, from int) []int {
	at := []int{from}
	for _, s := range l {
		var next []int
		for _, begin := range at {
			if s.Kind == api.Non {
				next = append(next, r.ends(s.N, begin)...)
			} else if begin < len(r.w) && isOf(s.R, r.w[begin]) {
				next = append(next, begin+1)
			}
		}
		slices.Sort(next)
		at = slices.Compact(next)
	}
	return at
}

func isOf(l []api.Range, b byte) bool {
	return slices.ContainsFunc(l, func(r api.Range) bool { return r.Lo <= int(b) && int(b) <= r.Hi })
}

// told is where a nonterminal ends, from each place of each of some bytes on.
func told(g api.Gram, n int, words []string) [][]int {
	var out [][]int
	for _, w := range words {
		r := reader{g, []byte(w), make(map[spot][]int)}
		for from := range len(w) + 1 {
			out = append(out, r.ends(n, from))
		}
	}
	return out
}
