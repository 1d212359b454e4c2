package token

import (
	"bytes"

	"exegete/api"
	"exegete/ranges"
	"exegete/utf"
)

const signs = "=|;()*+?/%"

// The numbers from firstGap to lastGap are no scalars.
const (
	firstGap = 0xd800
	lastGap  = 0xdfff
)

// mostDigits is how many digits a scalar is told by at most.
const mostDigits = 6

// tail is a text from a place on.
// What is read at its beginning is told with how many bytes it has: 0, if it is not there.
type tail []byte

// readers are the ways to read a token, by the byte that it begins by.
// Each asks for that byte to be there.
func readers() map[byte]func(tail) (api.Tok, int) {
	by := map[byte]func(tail) (api.Tok, int){
		'@': tail.mark,
		'"': tail.lit,
		'[': tail.class,
		'<': tail.octets,
	}
	for c := byte('a'); c <= 'z'; c++ {
		by[c] = tail.name
	}
	for _, c := range signs {
		by[byte(c)] = tail.sign
	}
	return by
}

// token is the token that a tail, of one byte at least, begins by.
func (t tail) token(by map[byte]func(tail) (api.Tok, int)) (api.Tok, int) {
	read, is := by[t[0]]
	if !is {
		return api.Tok{}, 0
	}
	return read(t)
}

func (t tail) name() (api.Tok, int) {
	many := t.nameBytes()
	if many > api.MaxName {
		return api.Tok{}, 0
	}
	return api.Tok{Kind: api.Name, Text: string(t[:many])}, many
}

// mark holds the whole name behind the @ against those of marks, so that a longer one is none.
func (t tail) mark() (api.Tok, int) {
	behind := t[1:]
	many := behind.nameBytes()
	name := string(behind[:many])
	if !isMark(name) {
		return api.Tok{}, 0
	}
	return api.Tok{Kind: api.Mark, Text: name}, 1 + many
}

func (t tail) sign() (api.Tok, int) {
	return api.Tok{Kind: api.Sign, Text: string(t[:1])}, 1
}

func (t tail) lit() (api.Tok, int) {
	var text []byte
	at := 1
	for {
		c, many := t[at:].piece()
		if many == 0 {
			break
		}
		text = append(text, c)
		at += many
	}
	if len(text) == 0 || !t[at:].begins(`"`) {
		return api.Tok{}, 0
	}
	return api.Tok{Kind: api.Lit, Text: string(text)}, at + 1
}

func (t tail) class() (api.Tok, int) {
	at := 1
	not := t[at:].begins("^")
	if not {
		at++
	}
	items, many := t[at:].items(tail.scalar)
	at += many
	if !t[at:].begins("]") {
		return api.Tok{}, 0
	}
	set := ranges.Norm(items)
	if not {
		set = ranges.Not(items, api.MaxScalar)
	}
	// Items, and what is not of them, may go across numbers that are no scalars.
	set = ranges.Less(set, []api.Range{{Lo: firstGap, Hi: lastGap}})
	return api.Tok{Kind: api.Class, R: set}, at + 1
}

func (t tail) octets() (api.Tok, int) {
	items, many := t[1:].items(tail.hex)
	at := 1 + many
	if !t[at:].begins(">") {
		return api.Tok{}, 0
	}
	return api.Tok{Kind: api.Bytes, R: ranges.Norm(items)}, at + 1
}

// items are as many items as there are, with ends that end reads, and how many bytes they have: none of either, if there are none.
func (t tail) items(end func(tail) (int, int)) ([]api.Range, int) {
	var l []api.Range
	at := 0
	for {
		r, many := t[at:].item(end)
		if many == 0 {
			return l, at
		}
		l = append(l, r)
		at += many
	}
}

func (t tail) item(end func(tail) (int, int)) (api.Range, int) {
	lo, many := end(t)
	if many == 0 {
		return api.Range{}, 0
	}
	if !t[many:].begins("-") {
		return api.Range{Lo: lo, Hi: lo}, many
	}
	hi, more := end(t[many+1:])
	if more == 0 || hi < lo {
		return api.Range{}, 0
	}
	return api.Range{Lo: lo, Hi: hi}, many + 1 + more
}

// nameBytes is how many bytes the name has that a tail begins by, however long it is.
func (t tail) nameBytes() int {
	if len(t) == 0 || !isLetter(t[0]) {
		return 0
	}
	many := 1
	for many < len(t) && isNameByte(t[many]) {
		many++
	}
	return many
}

// piece is a byte of a literal.
func (t tail) piece() (byte, int) {
	if t.begins(`\x`) {
		n, many := t[2:].hex()
		if many == 0 {
			return 0, 0
		}
		return byte(n), 2 + many
	}
	if len(t) == 0 || !standsInLit(t[0]) {
		return 0, 0
	}
	return t[0], 1
}

// scalar is a sign of a class.
func (t tail) scalar() (int, int) {
	if t.begins(`\u`) {
		return t.digitsScalar()
	}
	r, many := utf.Next(t, 0)
	if !standsInClass(r) {
		return 0, 0
	}
	return r, many
}

// digitsScalar is a sign of a class that is told by its digits.
func (t tail) digitsScalar() (int, int) {
	r, many := t[2:].number(mostDigits)
	at := 2 + many
	if many == 0 || !t[at:].begins(";") || !utf.May(r) {
		return 0, 0
	}
	return r, at + 1
}

func (t tail) hex() (int, int) {
	n, many := t.number(2)
	if many < 2 {
		return 0, 0
	}
	return n, many
}

// number is what digits tell by sixteen, as many as there are, but no more than most.
func (t tail) number(most int) (int, int) {
	n, many := 0, 0
	for many < len(t) && many < most {
		d := digit(t[many])
		if d < 0 {
			break
		}
		n = n*16 + d
		many++
	}
	return n, many
}

func (t tail) begins(s string) bool {
	return bytes.HasPrefix(t, []byte(s))
}
