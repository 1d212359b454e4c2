package reach

import (
	"slices"

	"exegete/api"
	"exegete/utf"
)

// texts is of which nonterminals a text is known.
type texts []bool

// withText tells of each nonterminal whether there is a text.
func withText(l []api.Prod) texts {
	known, users := make(texts, len(l)), usersOf(l)
	spread(len(l), allOf(l), func(n int) []int {
		if known[n] || !known.some(l[n].A) {
			return nil
		}
		known[n] = true
		// Nobody else can have got a text by this one's.
		return users[n]
	})
	return known
}

// usersOf are, of each nonterminal, those that it is a symbol of.
func usersOf(l []api.Prod) [][]int {
	users := make([][]int, len(l))
	for n, p := range l {
		for _, m := range symbols(p) {
			users[m] = append(users[m], n)
		}
	}
	return users
}

func allOf(l []api.Prod) []int {
	var out []int
	for n := range l {
		out = append(out, n)
	}
	return out
}

// some tells whether a text of some alternative is known.
func (k texts) some(a [][]api.Sym) bool {
	return slices.ContainsFunc(a, k.all)
}

// all tells whether a text of each symbol is known.
func (k texts) all(l []api.Sym) bool {
	for _, s := range l {
		if !k.of(s) {
			return false
		}
	}
	return true
}

// of tells whether a text of a symbol is known.
func (k texts) of(s api.Sym) bool {
	switch s.Kind {
	case api.Byte:
		return len(s.R) > 0
	case api.Scal:
		return hasScalar(s.R)
	}
	return k[s.N]
}

// hasScalar tells of ranges in order whether some scalar is of them. The numbers that are no scalars lie in one gap: where
// both the least and the greatest one are in it, all between them are.
func hasScalar(l []api.Range) bool {
	return len(l) > 0 && (utf.May(l[0].Lo) || utf.May(l[len(l)-1].Hi))
}
