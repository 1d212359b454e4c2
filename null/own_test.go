package null_test

import (
	"slices"

	"exegete/api"
	"exegete/flat"
)

// Another reckoning of the chapter: who is empty by trees of at most so many levels, level by level; of few nonterminals also
// by what all sets have in common that leave nobody out who is empty by them; lefts number by number, by what is ahead.

// ownEmpty tells of each nonterminal whether it is empty; none is by a tree of more levels than there are nonterminals alone.
func ownEmpty(g api.Gram) []bool {
	if !flat.May(g) {
		return nil
	}
	l := make([]bool, len(g.P))
	for range g.P {
		level := make([]bool, len(g.P))
		for n, p := range g.P {
			level[n] = slices.ContainsFunc(p.A, func(a []api.Sym) bool { return ownAll(l, a) })
		}
		l = level
	}
	return l
}

// ownAll tells whether all symbols are nonterminals of some.
func ownAll(some []bool, l []api.Sym) bool {
	return !slices.ContainsFunc(l, func(s api.Sym) bool {
		return s.Kind != api.Non || s.N < 0 || s.N >= len(some) || !some[s.N]
	})
}

func ownLefts(g api.Gram, n int) []int {
	if !flat.May(g) || n < 0 || n >= len(g.P) {
		return nil
	}
	empty := ownEmpty(g)
	var out []int
	for m := range g.P {
		if slices.ContainsFunc(g.P[n].A, func(a []api.Sym) bool { return ownLeft(empty, a, m) }) {
			out = append(out, m)
		}
	}
	return out
}

// ownLeft tells whether a nonterminal is a symbol of an alternative with empty ones alone ahead.
func ownLeft(empty []bool, a []api.Sym, m int) bool {
	for i, s := range a {
		if s.Kind == api.Non && s.N == m && ownAll(empty, a[:i]) {
			return true
		}
	}
	return false
}

// ownLeast is who is of all sets that leave nobody out who is empty by them.
func ownLeast(g api.Gram) []bool {
	least := slices.Repeat([]bool{true}, len(g.P))
	for bits := range 1 << len(g.P) {
		set := make([]bool, len(g.P))
		for n := range set {
			set[n] = bits>>n&1 == 1
		}
		if !ownIsClosed(g, set) {
			continue
		}
		for n := range set {
			least[n] = least[n] && set[n]
		}
	}
	return least
}

func ownIsClosed(g api.Gram, set []bool) bool {
	for n, p := range g.P {
		for _, a := range p.A {
			if !set[n] && ownAll(set, a) {
				return false
			}
		}
	}
	return true
}

// ownTree is a tree of a nonterminal without a byte, of at most so many levels, as nodes from place 0 up to 0.
func ownTree(g api.Gram, n, levels int) ([]api.Node, bool) {
	if levels == 0 {
		return nil, false
	}
	for i, a := range g.P[n].A {
		if l, is := ownBranches(g, a, levels-1); is {
			return append([]api.Node{{N: n, Alt: i}}, l...), true
		}
	}
	return nil, false
}

// ownBranches are trees of all symbols of an alternative, one behind the other.
func ownBranches(g api.Gram, a []api.Sym, levels int) ([]api.Node, bool) {
	var out []api.Node
	for _, s := range a {
		if s.Kind != api.Non {
			return nil, false
		}
		l, is := ownTree(g, s.N, levels)
		if !is {
			return nil, false
		}
		out = append(out, l...)
	}
	return out, true
}

// ownHolds tells whether nodes are just one tree of a nonterminal without a byte: each node opens what its alternative asks for.
func ownHolds(g api.Gram, n int, t []api.Node) bool {
	asked := []int{n}
	for _, node := range t {
		if len(asked) == 0 || asked[0] != node.N || node.From != 0 || node.Upto != 0 {
			return false
		}
		var more []int
		for _, s := range g.P[node.N].A[node.Alt] {
			if s.Kind != api.Non {
				return false
			}
			more = append(more, s.N)
		}
		asked = append(more, asked[1:]...)
	}
	return len(asked) == 0
}
