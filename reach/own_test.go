package reach_test

import (
	"slices"

	"exegete/api"
	"exegete/flat"
	"exegete/ranges"
	"exegete/utf"
)

// Another reckoning of the chapter, word by word: who is within whom by a table of all pairs; of whom there is a text by trees
// of at most so many levels, level by level, of few nonterminals also by what all sets have in common that leave nobody out of
// whom there is a text by them; scalars by a set of those that are none.

// ownWithin tells of each two nonterminals that may be whether the second one is within the first.
func ownWithin(g api.Gram) [][]bool {
	within := make([][]bool, len(g.P))
	for n, p := range g.P {
		within[n] = make([]bool, len(g.P))
		for _, a := range p.A {
			for _, s := range a {
				if s.Kind == api.Non {
					within[n][s.N] = true
				}
			}
		}
	}
	for by := range within {
		for n := range within {
			for m := range within {
				within[n][m] = within[n][m] || within[n][by] && within[by][m]
			}
		}
	}
	return within
}

func ownFrom(g api.Gram, n int) []bool {
	if !flat.May(g) || n < 0 || n >= len(g.P) {
		return nil
	}
	return ownWithin(g)[n]
}

// ownMakes tells of each nonterminal whether there is a text; no least tree has more levels than there are nonterminals.
func ownMakes(g api.Gram) []bool {
	if !flat.May(g) {
		return nil
	}
	l := make([]bool, len(g.P))
	for range g.P {
		level := make([]bool, len(g.P))
		for n, p := range g.P {
			level[n] = slices.ContainsFunc(p.A, func(a []api.Sym) bool { return ownAll(l, a) })
		}
		l = level
	}
	return l
}

// ownAll tells whether there is a text of all symbols, if there is one of some nonterminals.
func ownAll(some []bool, l []api.Sym) bool {
	return !slices.ContainsFunc(l, func(s api.Sym) bool { return !ownHas(some, s) })
}

func ownHas(some []bool, s api.Sym) bool {
	switch s.Kind {
	case api.Byte:
		return ranges.Size(s.R) > 0
	case api.Scal:
		return ranges.Size(ranges.Less(s.R, []api.Range{{Lo: 55296, Hi: 57343}})) > 0
	}
	return some[s.N]
}

// ownLeast is who is of all sets that leave nobody out of whom there is a text by them.
func ownLeast(g api.Gram) []bool {
	least := slices.Repeat([]bool{true}, len(g.P))
	for bits := range 1 << len(g.P) {
		set := make([]bool, len(g.P))
		for n := range set {
			set[n] = bits>>n&1 == 1
		}
		if !ownIsClosed(g, set) {
			continue
		}
		for n := range set {
			least[n] = least[n] && set[n]
		}
	}
	return least
}

func ownIsClosed(g api.Gram, set []bool) bool {
	for n, p := range g.P {
		for _, a := range p.A {
			if !set[n] && ownAll(set, a) {
				return false
			}
		}
	}
	return true
}

func ownLost(g api.Gram) int {
	for n, is := range ownFrom(g, 0) {
		if n > 0 && !is {
			return n
		}
	}
	return -1
}

func ownVain(g api.Gram) int {
	for n, is := range ownMakes(g) {
		if !is {
			return n
		}
	}
	return -1
}

// ownText is bytes that a nonterminal's tree of at most so many levels has.
func ownText(g api.Gram, n, levels int) ([]byte, bool) {
	if levels == 0 {
		return nil, false
	}
	for _, a := range g.P[n].A {
		if b, is := ownTexts(g, a, levels-1); is {
			return b, true
		}
	}
	return nil, false
}

// ownTexts is the bytes of an alternative's symbols, one behind the other.
func ownTexts(g api.Gram, a []api.Sym, levels int) ([]byte, bool) {
	var out []byte
	for _, s := range a {
		b, is := ownPiece(s)
		if s.Kind == api.Non {
			b, is = ownText(g, s.N, levels)
		}
		if !is {
			return nil, false
		}
		out = append(out, b...)
	}
	return out, true
}

// ownPiece is the bytes of the least number of a symbol's set that has some.
func ownPiece(s api.Sym) ([]byte, bool) {
	for _, r := range s.R {
		for n := r.Lo; n <= r.Hi; n++ {
			if s.Kind == api.Byte {
				return []byte{byte(n)}, true
			}
			if b, is := utf.Put(n); is {
				return b, true
			}
		}
	}
	return nil, false
}
