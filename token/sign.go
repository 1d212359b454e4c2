package token

import "strings"

const digits = "0123456789abcdef"

// digit is what a digit by sixteen tells; -1, if it is none.
func digit(c byte) int {
	return strings.IndexByte(digits, c)
}

func isLetter(c byte) bool {
	return c >= 'a' && c <= 'z'
}

func isNameByte(c byte) bool {
	return isLetter(c) || c >= '0' && c <= '9' || c == '_'
}

func isMark(name string) bool {
	switch name {
	case "long", "res", "off", "block", "align", "sync":
		return true
	}
	return false
}

// standsInLit tells whether a byte means itself in a literal.
func standsInLit(c byte) bool {
	return isSeen(int(c)) && c != '"' && c != '\\'
}

// standsInClass tells whether a scalar means itself in a class; of what is none, -1, it does not.
func standsInClass(r int) bool {
	return r >= ' ' && !strings.ContainsRune(`[]^-\`, rune(r))
}

// isSeen tells whether a number is a sign that one sees, or a blank, of one byte.
func isSeen(n int) bool {
	return n >= ' ' && n <= '~'
}
