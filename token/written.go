package token

import (
	"strconv"
	"strings"

	"exegete/api"
)

// written is a token's text, as if it may be; nothing, of a kind that is none.
// What is no part of such a token is passed by, or told as it comes: May reads the text again, and finds that out.
func written(t api.Tok) string {
	switch t.Kind {
	case api.Name, api.Sign:
		return t.Text
	case api.Mark:
		return "@" + t.Text
	case api.Lit:
		return `"` + litText(t.Text) + `"`
	case api.Class:
		return "[" + itemsText(t.R, scalarText) + "]"
	case api.Bytes:
		return "<" + itemsText(t.R, hexText) + ">"
	}
	return ""
}

// litText goes byte by byte, as a literal's bytes need not be scalars'.
func litText(text string) string {
	var out strings.Builder
	for i := range len(text) {
		if c := text[i]; standsInLit(c) {
			out.WriteByte(c)
		} else {
			out.WriteString(`\x` + hexText(int(c)))
		}
	}
	return out.String()
}

// itemsText is ranges as items, each end of them written by end.
func itemsText(l []api.Range, end func(int) string) string {
	var out strings.Builder
	for _, r := range l {
		out.WriteString(end(r.Lo))
		if r.Hi > r.Lo {
			out.WriteString("-" + end(r.Hi))
		}
	}
	return out.String()
}

// scalarText is a sign of a class; of a number that is no scalar it is a text that is not read.
func scalarText(r int) string {
	if isSeen(r) && standsInClass(r) {
		return string(rune(r))
	}
	return `\u` + strconv.FormatInt(int64(r), 16) + ";"
}

// hexText is a byte's two digits; of a number that is no byte they are read as another number.
func hexText(n int) string {
	return string([]byte{digits[n>>4&15], digits[n&15]})
}
