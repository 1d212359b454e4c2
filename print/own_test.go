package print_test

import (
	"slices"
	"strings"

	"exegete/api"
	"exegete/token"
)

// Another reckoning of the chapter: texts by its words, one by one, and what may be by the shape of a file alone, without reading.

// ownPart is a part's text.
func ownPart(p api.Part) string {
	switch p.Kind {
	case api.Call:
		return token.Text(api.Tok{Kind: api.Name, Text: p.Text})
	case api.Text:
		return token.Text(api.Tok{Kind: api.Lit, Text: p.Text})
	case api.Set:
		return token.Text(api.Tok{Kind: api.Class, R: p.R})
	case api.Octs:
		return token.Text(api.Tok{Kind: api.Bytes, R: p.R})
	}
	var l []string
	for _, x := range p.L {
		l = append(l, ownWithin(p.Kind, x))
	}
	switch p.Kind {
	case api.Seq:
		return strings.Join(l, " ")
	case api.Or:
		return strings.Join(l, " | ")
	case api.Star:
		return strings.Join(l, "") + "*"
	case api.Plus:
		return strings.Join(l, "") + "+"
	case api.Opt:
		return strings.Join(l, "") + "?"
	}
	return ""
}

// ownWithin is the text of a part of one of the kind outer, wrapped or not.
func ownWithin(outer int, p api.Part) string {
	bare := []int{api.Call, api.Text, api.Set, api.Octs}
	if outer == api.Seq {
		bare = append(bare, api.Star, api.Plus, api.Opt)
	}
	if outer == api.Or && p.Kind != api.Or || outer != api.Or && slices.Contains(bare, p.Kind) {
		return ownPart(p)
	}
	return "(" + ownPart(p) + ")"
}

// ownFile is a file's text, also of one that may not be.
func ownFile(f api.File) string {
	s := ""
	if len(f.Keys) != 0 {
		s += "%"
		for _, k := range f.Keys {
			s += " " + token.Text(api.Tok{Kind: api.Lit, Text: k})
		}
		s += ";\n"
	}
	for _, r := range f.R {
		for i, name := range strings.Fields("long res off block align sync") {
			if r.Marks>>i&1 == 1 {
				s += "@" + name + " "
			}
		}
		s += r.Name + " = " + ownPart(r.E)
		if len(r.Not) != 0 {
			s += " / " + token.Text(api.Tok{Kind: api.Class, R: r.Not})
		}
		s += ";\n"
	}
	return s
}

// ownMay tells whether a file is one that some text is read as, and its own text is short enough.
func ownMay(f api.File) bool {
	key := func(k string) bool { return token.May(api.Tok{Kind: api.Lit, Text: k}) }
	shaped := len(f.Keys) <= 8 && len(f.R) >= 1 && len(f.R) <= 16
	for _, k := range f.Keys {
		shaped = shaped && key(k)
	}
	for _, r := range f.R {
		shaped = shaped && token.May(api.Tok{Kind: api.Name, Text: r.Name}) && r.Marks >= 0 && r.Marks <= 63
		shaped = shaped && token.May(api.Tok{Kind: api.Class, R: r.Not}) && ownShaped(r.E)
	}
	if !shaped {
		return false
	}
	// All says of more than 3000 bytes, and of more than 600 tokens, that they are none.
	toks, _, e := token.All(ownFile(f))
	return e == api.OK && brackets(toks) <= 12
}

// ownShaped tells whether a part is as those that are read, of tokens that may be.
func ownShaped(p api.Part) bool {
	many := len(p.L)
	switch p.Kind {
	case api.Call:
		return token.May(api.Tok{Kind: api.Name, Text: p.Text}) && len(p.R) == 0 && many == 0
	case api.Text:
		return token.May(api.Tok{Kind: api.Lit, Text: p.Text}) && len(p.R) == 0 && many == 0
	case api.Set:
		return token.May(api.Tok{Kind: api.Class, R: p.R}) && p.Text == "" && many == 0
	case api.Octs:
		return token.May(api.Tok{Kind: api.Bytes, R: p.R}) && p.Text == "" && many == 0
	}
	is := p.Text == "" && len(p.R) == 0
	switch p.Kind {
	case api.Seq:
		is = is && many != 1
	case api.Or:
		is = is && many >= 2
	case api.Star, api.Plus, api.Opt:
		is = is && many == 1
	default:
		return false
	}
	return is && !slices.ContainsFunc(p.L, func(x api.Part) bool { return !ownShaped(x) })
}

// brackets is how many brackets are within one another, at most.
func brackets(toks []api.Tok) int {
	open, most := 0, 0
	for _, t := range toks {
		switch {
		case t.Kind == api.Sign && t.Text == "(":
			open++
		case t.Kind == api.Sign && t.Text == ")":
			open--
		}
		most = max(most, open)
	}
	return most
}
