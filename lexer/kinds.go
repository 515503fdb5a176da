package lexer

import (
	"strings"
	"unicode/utf8"
)

// kind is what a character may begin or go on with.
type kind int

const (
	bad     kind = iota // a byte at which no character begins
	strange             // a character that begins nothing
	blank
	sharp // it begins a comment
	digit
	low // the sign '_': a letter that a run of digits takes in too
	letter
	mark
)

const (
	noBreak  rune = 0xa0
	minus    rune = 0x2212
	multiply rune = 0xd7
	divide   rune = 0xf7
)

// kindOf is the kind of the character r that range finds at that place of s.
func kindOf(s string, place int, r rune) kind {
	switch {
	case r == utf8.RuneError && !strings.HasPrefix(s[place:], "\ufffd"): // the same rune stands for a bad byte and for itself
		return bad
	case r == ' ', r == '\t', r == noBreak:
		return blank
	case r == '#':
		return sharp
	case '0' <= r && r <= '9':
		return digit
	case r == '_':
		return low
	case markText(r) != "":
		return mark
	case isLetter(r):
		return letter
	}
	return strange
}

// isLetter leaves '_' aside, and takes the signs of multiplication and division, which stand among the letters, for none.
func isLetter(r rune) bool {
	switch {
	case r == multiply, r == divide:
		return false
	case 'a' <= r && r <= 'z', 'A' <= r && r <= 'Z':
		return true
	}
	return 0xc0 <= r && r <= 0x2af || 0x370 <= r && r <= 0x3ff
}

// markText is the text of the mark r, and "" if it is none.
func markText(r rune) string {
	switch r {
	case '+', '-', '*', '^', '\'', '(', ')', '[', ']', '{', '}', ',', ';', ':', '=':
		return string(r)
	case minus:
		return "-"
	case multiply:
		return "*"
	}
	return ""
}
