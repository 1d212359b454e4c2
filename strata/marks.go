package strata

import "exegete/api"

// What is asked of marks.
const (
	filtering = iota
	layout
	anew
)

// asked is, of each, the marks of which one at least is to be set.
var asked = [...]int{
	filtering: api.Long | api.Res,
	layout:    api.Off | api.Block | api.Align,
	anew:      api.Sync,
}

func marked(p api.Prod, what int) bool {
	return p.Marks&asked[what] != 0
}

// allMarked are all nonterminals of whose marks it is so.
func allMarked(l []api.Prod, what int) set {
	var out set
	for n, p := range l {
		if marked(p, what) {
			out |= only(n)
		}
	}
	return out
}
