package print

import "exegete/api"

// How tightly what is written of a part holds together: from that which any sign splits to that which none does.
const (
	choice = iota
	chain
	often
	atom
)

// form is how a part's parts are written: how tightly that holds together, what stands between two of them, and behind them.
type form struct {
	tight           int
	between, behind string
}

var forms = [...]form{
	api.Call: {tight: atom},
	api.Text: {tight: atom},
	api.Set:  {tight: atom},
	api.Octs: {tight: atom},
	api.Seq:  {tight: chain, between: " "},
	api.Or:   {tight: choice, between: " | "},
	api.Star: {tight: often, behind: "*"},
	api.Plus: {tight: often, behind: "+"},
	api.Opt:  {tight: often, behind: "?"},
}

// wraps tells whether a part of the kind outer writes one of the kind inner in brackets.
func wraps(outer, inner int) bool {
	return tightOf(inner) <= tightOf(outer)
}

func tightOf(kind int) int {
	if kind < 0 || kind >= len(forms) {
		// What is of no kind is no text, and so is a Seq of nothing: both are wrapped alike.
		return chain
	}
	return forms[kind].tight
}

// marks are the bits of marks, in the order in which they are written, and their names.
var marks = [...]struct {
	bit  int
	name string
}{
	{api.Long, "long"},
	{api.Res, "res"},
	{api.Off, "off"},
	{api.Block, "block"},
	{api.Align, "align"},
	{api.Sync, "sync"},
}
