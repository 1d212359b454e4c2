// Package utf is layer 1: see shared/doc/01-utf.md.
package utf

import "exegete/api"

// The numbers from firstGap to lastGap are no scalars.
const (
	firstGap = 0xd800
	lastGap  = 0xdfff
)

// The least numbers that need two, three and four bytes.
const (
	leastOfTwo   = 0x80
	leastOfThree = 0x800
	leastOfFour  = 0x10000
)

// What the first byte of two, three and four begins at, and each byte behind it.
const (
	leadOfTwo   = 0xc0
	leadOfThree = 0xe0
	leadOfFour  = 0xf0
	noLead      = 0xf8
	trail       = 0x80
)

// May tells whether a number is a scalar.
func May(r int) bool {
	return r >= 0 && r <= api.MaxScalar && (r < firstGap || r > lastGap)
}

// Put is a scalar as bytes.
func Put(r int) ([]byte, bool) {
	switch {
	case !May(r):
		return nil, false
	case r < leastOfTwo:
		return []byte{byte(r)}, true
	case r < leastOfThree:
		return []byte{byte(leadOfTwo + r/64), follower(r)}, true
	case r < leastOfFour:
		return []byte{byte(leadOfThree + r/4096), follower(r / 64), follower(r)}, true
	}
	return []byte{byte(leadOfFour + r/262144), follower(r / 4096), follower(r / 64), follower(r)}, true
}

// follower is the byte behind the first one that carries the lowest six bits of a number.
func follower(r int) byte {
	return byte(trail + r%64)
}

// Next is the scalar at a place, and how many bytes it has; -1, and 1, of a byte that is none's.
func Next(b []byte, at int) (int, int) {
	if at < 0 || at >= len(b) {
		return -1, 0
	}
	t := tail(b[at:])
	many := t.many()
	if many > len(t) {
		return -1, 1
	}
	r := readers()[many](t)
	if r < 0 {
		return -1, 1
	}
	return r, many
}

// Units is how many units bytes are.
func Units(b []byte) int {
	units := 0
	for at := 0; at < len(b); units++ {
		_, many := Next(b, at)
		at += many
	}
	return units
}
