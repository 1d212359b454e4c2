package reach

import "exegete/api"

// within tells of each nonterminal whether it is within one.
func within(l []api.Prod, n int) []bool {
	is := make([]bool, len(l))
	spread(len(l), []int{n}, func(m int) []int {
		var found []int
		for _, s := range symbols(l[m]) {
			if !is[s] {
				is[s] = true
				found = append(found, s)
			}
		}
		return found
	})
	return is
}

// symbols are the nonterminals that are a symbol of one, each as often as it is.
func symbols(p api.Prod) []int {
	var out []int
	for _, a := range p.A {
		for _, s := range a {
			if s.Kind == api.Non {
				out = append(out, s.N)
			}
		}
	}
	return out
}
