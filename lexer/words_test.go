package lexer_test

import (
	"fmt"
	"slices"
	"strings"
	"testing"

	"trellis/api"
	"trellis/lexer"
	"trellis/radix"
)

// The chapter's words reckoned by themselves: characters out of bytes and binary digits, tokens by trying longer and longer runs.

// character is a character of a text, or a bad byte of it.
type character struct {
	code int // -1 for a bad byte
	text string
}

// characters cuts a text by the table of UTF-8 alone.
func characters(s string) []character {
	var all []character
	for len(s) > 0 {
		one := character{-1, s[:1]}
		for size := 1; size <= 4 && size <= len(s); size++ {
			if code := codeOf(s[:size]); code >= 0 {
				one = character{code, s[:size]}
			}
		}
		all = append(all, one)
		s = s[len(one.text):]
	}
	return all
}

// codeOf is the code point that just these bytes write, and -1 if they write none.
func codeOf(s string) int {
	size := len(s)
	heads := [5]int{0, 0x00, 0xc0, 0xe0, 0xf0}
	rooms := [5]int{0, 0x80, 0x20, 0x10, 0x08} // how many values the first byte has room for
	least := [5]int{0, 0, 0x80, 0x800, 0x10000}
	code := int(s[0]) - heads[size]
	if code < 0 || code >= rooms[size] {
		return -1
	}
	for _, next := range []byte(s[1:]) {
		if next < 0x80 || next > 0xbf {
			return -1
		}
		code = 64*code + int(next) - 0x80
	}
	if code < least[size] || code >= 0xd800 && code <= 0xdfff || code > 0x10ffff {
		return -1
	}
	return code
}

const (
	digits = "0123456789"
	blanks = " \t\u00a0"
	marks  = "+-*^'()[]{},;:=\u2212\u00d7"
)

func isOneOf(one character, all string) bool {
	return one.code >= 0 && strings.Contains(all, one.text)
}

func isDigit(one character) bool { return isOneOf(one, digits) }

func isLow(one character) bool { return one.text == "_" }

func isLetter(one character) bool {
	c := one.code
	latin := c >= 0xc0 && c <= 0x2af && c != 0xd7 && c != 0xf7
	greek := c >= 0x370 && c <= 0x3ff
	return isLow(one) || latin || greek || isOneOf(one, "abcdefghijklmnopqrstuvwxyzABCDEFGHIJKLMNOPQRSTUVWXYZ")
}

// run is the longest run from the beginning of all whose characters all belong.
func run(all []character, belongs func(one character) bool) string {
	text := ""
	for _, one := range all {
		if !belongs(one) {
			break
		}
		text += one.text
	}
	return text
}

// plainTokens goes by P25.2 and P25.3 from place to place.
func plainTokens(line string) ([]api.Token, int, api.Errno) {
	var list []api.Token
	all := characters(line)
	for at := 0; at < len(all); {
		one, col := all[at], at+1
		token := api.Token{Col: col}
		switch {
		case one.code < 0:
			return nil, col, api.ErrUtf8
		case one.text == "#":
			bad := slices.IndexFunc(all, func(one character) bool { return one.code < 0 })
			if bad >= 0 {
				return nil, bad + 1, api.ErrUtf8
			}
			return list, 0, api.OK
		case isOneOf(one, blanks):
			at++
			continue
		case isDigit(one):
			token.Kind = api.Number
			token.Text = run(all[at:], func(one character) bool { return isDigit(one) || isLow(one) })
			if _, e := radix.ReadGrouped(token.Text); e != api.OK {
				return nil, col, api.ErrText
			}
		case isLetter(one):
			token.Kind = api.Name
			token.Text = run(all[at:], func(one character) bool { return isDigit(one) || isLetter(one) })
			if len(token.Text) > 32 {
				return nil, col, api.ErrLong
			}
		case isOneOf(one, marks):
			token.Kind = api.Mark
			token.Text = strings.NewReplacer("\u2212", "-", "\u00d7", "*").Replace(one.text)
			list = append(list, token)
			at++
			continue
		default:
			return nil, col, api.ErrRune
		}
		list = append(list, token)
		at += len(characters(token.Text))
	}
	return list, 0, api.OK
}

// plainLines goes byte by byte.
func plainLines(s string) []string {
	var all []string
	line := ""
	for i := range len(s) {
		if s[i] != '\n' {
			line += s[i : i+1]
		}
		if s[i] == '\n' || i == len(s)-1 {
			if line != "" && line[len(line)-1] == '\r' {
				line = line[:len(line)-1]
			}
			all = append(all, line)
			line = ""
		}
	}
	return all
}

func plainColumns(s string) (int, api.Errno) {
	all := characters(s)
	if slices.ContainsFunc(all, func(one character) bool { return one.code < 0 }) {
		return 0, api.ErrUtf8
	}
	return len(all), api.OK
}

// holdPlain holds all three calls at s against the plain reckoning.
func holdPlain(t *testing.T, s string) {
	t.Helper()
	list, col, e := plainTokens(s)
	sameAnswer(t, s, list, col, e)
	holdLines(t, s, plainLines(s)...)
	count, e := plainColumns(s)
	holdColumns(t, s, count, e)
}

// pieces are characters and bytes of each kind.
func pieces() []string {
	return []string{"a", "Z", "_", "7", "0", "é", "λ", "-", "×", "−", "÷", " ", "\t", "\u00a0", "#", "?", "\n", "\r", "\xff", "\xc3", "\x80", "\xe2\x82", "\xed\xa0\x80", "\xf4\x90\x80\x80", "\xc0\x80", "\ufffd", "𝔸"}
}

// allOf hands on every text made of just so many pieces.
func allOf(pieces []string, count int, tell func(s string)) {
	if count == 0 {
		tell("")
		return
	}
	allOf(pieces, count-1, func(s string) {
		for _, piece := range pieces {
			tell(s + piece)
		}
	})
}

// P25.1 to P25.4 for every short text out of pieces of each kind: which of several things wrong is told, and where.
func TestAllShortTexts(t *testing.T) {
	for count := range 4 {
		allOf(pieces(), count, func(s string) { holdPlain(t, s) })
	}
	allOf([]string{"a", "_", "7", "−", "\u00a0", "#", "?", "\r", "\n", "\xe2\x88"}, 5, func(s string) { holdPlain(t, s) })
}

// P25.1: where bytes 10 and 13 stand beside each other.
func TestAllShortLines(t *testing.T) {
	for count := range 9 {
		allOf([]string{"\n", "\r", "\xff"}, count, func(s string) { holdLines(t, s, plainLines(s)...) })
	}
}

// P25.2 to P25.4 for all bytes beside each other, so that every beginning of a character is cut short by each byte.
func TestAllBytes(t *testing.T) {
	for first := range 256 {
		holdPlain(t, string([]byte{byte(first)}))
		for second := range 256 {
			holdPlain(t, string([]byte{byte(first), byte(second)}))
			holdPlain(t, string([]byte{byte(first), byte(second), 0x80, 'a'}))
			holdPlain(t, string([]byte{byte(first), byte(second), 0xbf, 0xbf}))
		}
	}
}

// P25.2, P25.3 and P25.4 for each code point, the surrogates and what lies above the last one as bytes of the same form: alone, at a run's beginning, in one, behind one and in a remark.
func TestAllCodes(t *testing.T) {
	for code := range 0x110400 {
		s := written(code)
		list, col, e := plainTokens(s)
		sameAnswer(t, s, list, col, e)
		count, e := plainColumns(s)
		holdColumns(t, s, count, e)
		if code < 0x3000 || code%0x400 < 3 || code%0x400 > 0x3fc {
			for _, around := range [][2]string{{"a", "b"}, {"1", "2"}, {"", "7"}, {" #", ""}, {"é_", "+"}} {
				holdPlain(t, around[0]+s+around[1])
			}
		}
	}
}

// written is the code point's bytes, also of those that no character has.
func written(code int) string {
	low := func(shift int) byte { return byte(0x80 | code>>shift&0x3f) }
	switch {
	case code < 0x80:
		return string([]byte{byte(code)})
	case code < 0x800:
		return string([]byte{byte(0xc0 | code>>6), low(0)})
	case code < 0x10000:
		return string([]byte{byte(0xe0 | code>>12), low(6), low(0)})
	}
	return string([]byte{byte(0xf0 | code>>18), low(12), low(6), low(0)})
}

// P25.3 and P25.4 for forms that are longer than the shortest.
func TestLongForms(t *testing.T) {
	for code := range 0x80 {
		holdFault(t, "a "+string([]byte{byte(0xc0 | code>>6), byte(0x80 | code&0x3f)}), 3, api.ErrUtf8)
	}
	for code := range 0x800 {
		holdFault(t, "a "+string([]byte{0xe0, byte(0x80 | code>>6), byte(0x80 | code&0x3f)}), 3, api.ErrUtf8)
	}
	for code := range 0x10000 {
		holdFault(t, "a "+string([]byte{0xf0, byte(0x80 | code>>12), byte(0x80 | code>>6&0x3f), byte(0x80 | code&0x3f)}), 3, api.ErrUtf8)
	}
}

// R5: the same text is answered the same again.
func TestTwice(t *testing.T) {
	allOf(pieces(), 2, func(s string) {
		first := fmt.Sprint(lexer.Tokens(s)) + fmt.Sprint(lexer.Columns(s)) + fmt.Sprint(lexer.Lines(s))
		if second := fmt.Sprint(lexer.Tokens(s)) + fmt.Sprint(lexer.Columns(s)) + fmt.Sprint(lexer.Lines(s)); first != second {
			t.Errorf("%q: %s, and then %s", s, first, second)
		}
	})
}
