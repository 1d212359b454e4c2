package rank_test

import (
	"slices"

	"exegete/api"
	"exegete/flat"
	"exegete/null"
)

// Another reckoning of the chapter, word by word: who comes to whom by a table of all pairs, the order by a look at all
// nonterminals for each one of it, and numbers by how many are ahead of each.

// ownLefts are the lefts of each nonterminal.
func ownLefts(g api.Gram) [][]int {
	lefts := make([][]int, len(g.P))
	for n := range lefts {
		lefts[n] = null.Lefts(g, n)
	}
	return lefts
}

// ownComes tells of each two nonterminals that may be whether the one comes to the other.
func ownComes(g api.Gram) [][]bool {
	comes := make([][]bool, len(g.P))
	for n, l := range ownLefts(g) {
		comes[n] = make([]bool, len(g.P))
		for _, left := range l {
			comes[n][left] = true
		}
	}
	for by := range comes {
		for n := range comes {
			for m := range comes {
				comes[n][m] = comes[n][m] || comes[n][by] && comes[by][m]
			}
		}
	}
	return comes
}

func ownCircle(g api.Gram) int {
	if flat.May(g) {
		for n, to := range ownComes(g) {
			if to[n] {
				return n
			}
		}
	}
	return -1
}

func ownOrder(g api.Gram) ([]int, bool) {
	if !flat.May(g) || ownCircle(g) >= 0 {
		return nil, false
	}
	var out []int
	lefts := ownLefts(g)
	for range lefts {
		for n, l := range lefts {
			waits := func(left int) bool { return !slices.Contains(out, left) }
			if waits(n) && !slices.ContainsFunc(l, waits) {
				out = append(out, n)
				break
			}
		}
	}
	return out, true
}

// ownFirst puts each number behind all that are below it, and all that are the same and ahead of it.
func ownFirst(l []int) []int {
	out := make([]int, len(l))
	for i, n := range l {
		at := 0
		for j, m := range l {
			if m < n || m == n && j < i {
				at++
			}
		}
		out[at] = n
	}
	return out
}
