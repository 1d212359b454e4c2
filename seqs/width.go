package seqs

import (
	"exegete/api"
	"exegete/ranges"
	"exegete/utf"
)

// lowBits is how many bits of a scalar each byte behind the first one carries.
const lowBits = 6

// width is scalars that are told by as many bytes.
type width struct {
	api.Range
	bytes int
}

// Those of three bytes are two rows: the numbers from 0xd800 to 0xdfff between them are no scalars.
var widths = [...]width{
	{api.Range{Lo: 0, Hi: 0x7f}, 1},
	{api.Range{Lo: 0x80, Hi: 0x7ff}, 2},
	{api.Range{Lo: 0x800, Hi: 0xd7ff}, 3},
	{api.Range{Lo: 0xe000, Hi: 0xffff}, 3},
	{api.Range{Lo: 0x10000, Hi: api.MaxScalar}, 4},
}

// pieces is what of r is of the width, cut so that each piece is one sequence.
func (w width) pieces(r api.Range) []api.Range {
	left := ranges.Both([]api.Range{w.Range}, []api.Range{r})
	for bits := lowBits * (w.bytes - 1); bits > 0; bits -= lowBits {
		left = split(bits, left...)
	}
	return left
}

// split cuts each range at a number of bits.
func split(bits int, l ...api.Range) []api.Range {
	var out []api.Range
	for _, r := range l {
		out = append(out, cut(bits, r)...)
	}
	return out
}

// cut is one range, split: what is ahead of the whole multiples of 2^bits, these, and what is behind them.
// Where Lo is the first number of a multiple there is nothing ahead, and where Hi is the last one nothing behind.
func cut(bits int, r api.Range) []api.Range {
	if r.Lo>>bits == r.Hi>>bits {
		return []api.Range{r}
	}
	each := 1 << bits
	first := (r.Lo + each - 1) / each * each
	behind := (r.Hi + 1) / each * each
	parts := [...]api.Range{
		{Lo: r.Lo, Hi: first - 1},
		{Lo: first, Hi: behind - 1},
		{Lo: behind, Hi: r.Hi},
	}
	var out []api.Range
	for _, p := range parts {
		if p.Lo <= p.Hi {
			out = append(out, p)
		}
	}
	return out
}

// sequence is, for each byte of the scalars of a piece, the range from that of Lo to that of Hi.
func sequence(p api.Range) []api.Range {
	lo, _ := utf.Put(p.Lo)
	hi, _ := utf.Put(p.Hi)
	s := make([]api.Range, len(lo))
	for i := range s {
		s[i] = api.Range{Lo: int(lo[i]), Hi: int(hi[i])}
	}
	return s
}
