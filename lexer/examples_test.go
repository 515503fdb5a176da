package lexer_test

import (
	"fmt"
	"slices"
	"strings"
	"testing"

	"trellis/api"
	"trellis/check"
	"trellis/lexer"
)

// The examples of the chapter.

// holdLines asks for the lines of s.
func holdLines(t *testing.T, s string, want ...string) {
	t.Helper()
	if got := lexer.Lines(s); !slices.Equal(got, want) {
		t.Errorf("Lines(%q): %q, want %q", s, got, want)
	}
}

// holdTokens asks for the tokens of a line that has no fault.
func holdTokens(t *testing.T, line string, want ...api.Token) {
	t.Helper()
	sameAnswer(t, line, want, 0, api.OK)
}

// holdFault asks for the fault of a line.
func holdFault(t *testing.T, line string, col int, e api.Errno) {
	t.Helper()
	sameAnswer(t, line, nil, col, e)
}

func sameAnswer(t *testing.T, line string, want []api.Token, wantCol int, wantE api.Errno) {
	t.Helper()
	list, col, e := lexer.Tokens(line)
	if !slices.Equal(list, want) || col != wantCol || e != wantE {
		t.Errorf("Tokens(%.80q): %v, %d, %d, want %v, %d, %d", line, list, col, e, want, wantCol, wantE)
	}
}

func number(text string, col int) api.Token {
	return api.Token{Kind: api.Number, Text: text, Col: col}
}

func name(text string, col int) api.Token {
	return api.Token{Kind: api.Name, Text: text, Col: col}
}

func mark(text string, col int) api.Token {
	return api.Token{Kind: api.Mark, Text: text, Col: col}
}

// P25.1.
func TestExamplesOfLines(t *testing.T) {
	holdLines(t, "a\r\nb\n\nc", "a", "b", "", "c")
	holdLines(t, "\n", "")
	holdLines(t, "")
	holdLines(t, "\r", "")
	holdLines(t, "a\r\r\n", "a\r")
	holdLines(t, "a\r", "a")
	holdLines(t, "\r\n\r", "", "")
}

// P25.2.
func TestExamplesOfTokens(t *testing.T) {
	holdTokens(t, "let A = [1 -2_0] # é", name("let", 1), name("A", 5), mark("=", 7), mark("[", 9), number("1", 10), mark("-", 12), number("2_0", 13), mark("]", 16))
	holdTokens(t, "é1 λ", name("é1", 1), name("λ", 4))
	holdTokens(t, "12a", number("12", 1), name("a", 3))
	holdTokens(t, "_1", name("_1", 1))
	holdTokens(t, "a − b × c", name("a", 1), mark("-", 3), name("b", 5), mark("*", 7), name("c", 9))
	holdTokens(t, "a \u2212 b \u00d7 c", name("a", 1), mark("-", 3), name("b", 5), mark("*", 7), name("c", 9))
	holdTokens(t, "")
}

// P25.3.
func TestExamplesOfFaults(t *testing.T) {
	holdFault(t, "1_a", 1, api.ErrText)
	holdFault(t, "é \xff", 3, api.ErrUtf8)
	holdFault(t, "a ? \xff", 3, api.ErrRune)
	holdFault(t, "# \xff", 3, api.ErrUtf8)
	holdFault(t, "1__2 ?", 1, api.ErrText)
	holdFault(t, "\ufeffa", 1, api.ErrRune)
	holdFault(t, "  "+strings.Repeat("a", 33), 3, api.ErrLong)
	holdTokens(t, strings.Repeat("a", 32), name(strings.Repeat("a", 32), 1))
	holdFault(t, strings.Repeat("é", 17), 1, api.ErrLong)
}

// P25.4.
func TestExamplesOfColumns(t *testing.T) {
	holdColumns(t, "é1", 2, api.OK)
	holdColumns(t, "\xc3", 0, api.ErrUtf8)
	holdColumns(t, "", 0, api.OK)
}

func holdColumns(t *testing.T, s string, want int, wantE api.Errno) {
	t.Helper()
	count, e := lexer.Columns(s)
	check.Same(t, fmt.Sprintf("Columns(%.80q)", s), count, want)
	check.Same(t, fmt.Sprintf("Columns(%.80q)'s error", s), e, wantE)
}
