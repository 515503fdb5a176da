package lexer_test

import (
	"slices"
	"strings"
	"testing"

	"trellis/api"
	"trellis/lexer"
)

// P25.1: the edges that the chapter names; a line need not be UTF-8.
func TestEdgesOfLines(t *testing.T) {
	holdLines(t, "a", "a")
	holdLines(t, "a\n", "a")
	holdLines(t, "a\r\n", "a")
	holdLines(t, "a\n\n", "a", "")
	holdLines(t, "a\n\r", "a", "")
	holdLines(t, "a\n\r\r", "a", "\r")
	holdLines(t, "\r\r\n", "\r")
	holdLines(t, "\r\r", "\r")
	holdLines(t, "\ra\rb\r\n\rc", "\ra\rb", "\rc")
	holdLines(t, "\xff\n\xc3\r\n\xa9", "\xff", "\xc3", "\xa9")
	holdLines(t, "a\u2028b\u0085c\vd\fe\x00", "a\u2028b\u0085c\vd\fe\x00")
}

// P25.2: the letters at both ends of each range, and the characters that stand next to them.
func TestEndsOfLetters(t *testing.T) {
	for _, r := range []rune{'a', 'z', 'A', 'Z', '_', 0xc0, 0xd6, 0xd8, 0xf6, 0xf8, 0x2af, 0x370, 0x3ff, 0x37e, 0x387} {
		holdTokens(t, "+"+string(r)+"1", mark("+", 1), name(string(r)+"1", 2))
		holdTokens(t, "x"+string(r), name("x"+string(r), 1))
	}
	for _, r := range []rune{0xbf, 0xf7, 0x2b0, 0x36f, 0x400, 0xaa, 0xb5, 0xba, '@', '`', '/', '"', '.', '$', '%', '&', '!', '?', '<', '>', '|', '~', '\\', 0x7f, 0, '\n', '\r', '\v', '\f', 0x85, 0x2028, 0x3000, 0xad, 0xfeff, 0x2010, 0x2013, 0xb7, 0x22c5, 0x660, 0xff11, 0xb2, 0xfffd, 0x10ffff} {
		holdRune(t, r)
	}
	holdTokens(t, "a\u00d7b", name("a", 1), mark("*", 2), name("b", 3))
}

// holdRune asks for the fault of a character that begins nothing, at a line's beginning and behind runs; a remark may hold it.
func holdRune(t *testing.T, r rune) {
	t.Helper()
	holdFault(t, string(r), 1, api.ErrRune)
	holdFault(t, "λ1"+string(r), 3, api.ErrRune)
	holdFault(t, "1_2 "+string(r)+"\xff", 5, api.ErrRune)
	holdTokens(t, "+#"+string(r), mark("+", 1))
}

// P25.2: each mark beside each other one; every one is a token of its own.
func TestMarks(t *testing.T) {
	all := strings.Split("+ - * ^ ' ( ) [ ] { } , ; : =", " ")
	for _, first := range all {
		for _, second := range all {
			holdTokens(t, first+second+"a"+first+"1"+second, mark(first, 1), mark(second, 2), name("a", 3), mark(first, 4), number("1", 5), mark(second, 6))
		}
	}
	holdTokens(t, "−−×-*", mark("-", 1), mark("-", 2), mark("*", 3), mark("-", 4), mark("*", 5))
}

// P25.2: blanks of each kind, alone, together and between all else.
func TestBlanks(t *testing.T) {
	for _, blank := range []string{" ", "\t", "\u00a0", " \t\u00a0 "} {
		wide := len([]rune(blank))
		holdTokens(t, blank)
		holdTokens(t, blank+"a"+blank+"1"+blank+"+"+blank, name("a", 1+wide), number("1", 2+2*wide), mark("+", 3+3*wide))
		holdTokens(t, "1"+blank+"_", number("1", 1), name("_", 2+wide))
	}
}

// P25.2: a remark takes all behind it; its '#' ends a run.
func TestRemarks(t *testing.T) {
	holdTokens(t, "#")
	holdTokens(t, "a#b", name("a", 1))
	holdTokens(t, "1_0#_", number("1_0", 1))
	holdTokens(t, "## # 1__ ? \r\n\x00 "+strings.Repeat("a", 40))
	holdFault(t, "1_# \xff", 1, api.ErrText)
	holdFault(t, "é # 1__ ? \u2028 \xff \xff", 13, api.ErrUtf8)
	holdFault(t, "? # \xff", 1, api.ErrRune)
	holdFault(t, "#\xed\xa0\x80", 2, api.ErrUtf8)
}

// P25.2 and P25.3: digits with '_'.
func TestNumbers(t *testing.T) {
	for _, text := range []string{"0", "00", "7", "1_2", "1_2_3", "12_34_5", "0_0", strings.Repeat("9", 5000), "1" + strings.Repeat("_0", 3000)} {
		holdTokens(t, text, number(text, 1))
		holdTokens(t, "("+text+"a_", mark("(", 1), number(text, 2), name("a_", 2+len(text)))
	}
	for _, text := range []string{"1_", "1__2", "1__", "1_2_", "1_2__3", "0___0", "1_2_3__"} {
		holdFault(t, text, 1, api.ErrText)
		holdFault(t, " \u00a0"+text+" 5", 3, api.ErrText)
		holdFault(t, "5 "+text+"\xff", 3, api.ErrText)
		holdFault(t, text+"?", 1, api.ErrText)
		holdFault(t, text+"a", 1, api.ErrText)
	}
	holdTokens(t, "_1_", name("_1_", 1))
	holdTokens(t, "a__1", name("a__1", 1))
}

// P25.3: a name's length counts bytes, and the fault stands at its beginning.
func TestLongNames(t *testing.T) {
	long := strings.Repeat("a", api.MaxName)
	longest := strings.Repeat("é", api.MaxName/2)
	for _, text := range []string{long, longest, longest[:30] + "_9", "_" + long[1:], "a" + strings.Repeat("1", 31)} {
		holdTokens(t, "−"+text+"−", mark("-", 1), name(text, 2), mark("-", 2+len([]rune(text))))
		for _, more := range []string{"a", "_", "0", "λ"} {
			holdFault(t, "−"+text+more, 2, api.ErrLong)
			holdFault(t, "\t "+text+more+"\xff", 3, api.ErrLong)
			holdFault(t, text+more+"?", 1, api.ErrLong)
			holdFault(t, text+more+" "+text+more, 1, api.ErrLong)
		}
	}
	holdFault(t, longest[:30]+"aλ", 1, api.ErrLong)
	holdFault(t, strings.Repeat("a", 100000), 1, api.ErrLong)
}

// P25.3 and P25.4: bad bytes of each kind, in a remark, in a run and behind one.
func TestBadBytes(t *testing.T) {
	for _, bad := range []string{
		"\x80", "\xbf", // ones that go on with nothing
		"\xc3", "\xe2\x88", "\xf0\x9d\x94", // characters cut short
		"\xc0\x80", "\xc1\xbf", "\xe0\x80\x80", "\xe0\x9f\xbf", "\xf0\x80\x80\x80", "\xf0\x8f\xbf\xbf", // not in the shortest form
		"\xed\xa0\x80", "\xed\xbf\xbf", // surrogates
		"\xf4\x90\x80\x80", "\xf7\xbf\xbf\xbf", "\xf8\x88\x80\x80\x80", "\xfe", "\xff", // above the last one
	} {
		holdFault(t, bad, 1, api.ErrUtf8)
		holdFault(t, "éλ"+bad, 3, api.ErrUtf8)
		holdFault(t, "12"+bad+"3", 3, api.ErrUtf8)
		holdFault(t, "1_"+bad+"3", 1, api.ErrText)
		holdFault(t, "× # é"+bad+"?", 6, api.ErrUtf8)
		holdFault(t, "×"+bad+"#", 2, api.ErrUtf8)
		holdFault(t, "a "+bad+" ?", 3, api.ErrUtf8)
		holdFault(t, "a ? "+bad, 3, api.ErrRune)
		holdColumns(t, "ab"+bad, 0, api.ErrUtf8)
		holdColumns(t, bad+"ab", 0, api.ErrUtf8)
	}
	holdFault(t, "\ufffd", 1, api.ErrRune)
	holdFault(t, "#\ufffd\xef\xbf", 3, api.ErrUtf8)
	holdColumns(t, "\ufffd\ufffd", 2, api.OK)
	holdColumns(t, "a\nb\r#é𝔸\x00", 8, api.OK)
}

// P25.2 to P25.4 for long texts.
func TestLongTexts(t *testing.T) {
	const count = 300000
	list, col, e := lexer.Tokens(strings.Repeat("é−", count))
	if len(list) != 2*count || col != 0 || e != api.OK || list[2*count-1] != mark("-", 2*count) {
		t.Errorf("Tokens of a long line: %d tokens, %d, %d", len(list), col, e)
	}
	holdFault(t, strings.Repeat("é−", count)+"\xff", 2*count+1, api.ErrUtf8)
	holdFault(t, strings.Repeat(" ", count)+"1_", count+1, api.ErrText)
	holdColumns(t, strings.Repeat("𝔸", count), count, api.OK)
	if lines := lexer.Lines(strings.Repeat("\r\n", count)); len(lines) != count || !slices.Equal(slices.Compact(lines), []string{""}) {
		t.Errorf("Lines of many empty ones: %d", len(lines))
	}
}

// R4: each answer has memory of its own, its spare room too.
func TestMemory(t *testing.T) {
	for _, s := range []string{"a", "a b\r\nc", "1 + 2\n3\n", "[1 2; 3 4]"} {
		lines, want := lexer.Lines(s), lexer.Lines(s)
		keep := slices.Clone(want)
		clear(lines[:cap(lines)])
		if !slices.Equal(want, keep) {
			t.Errorf("Lines(%q): two answers share memory", s)
		}
		list, _, _ := lexer.Tokens(s)
		other, _, _ := lexer.Tokens(s)
		tokens := slices.Clone(other)
		clear(list[:cap(list)])
		if !slices.Equal(other, tokens) {
			t.Errorf("Tokens(%q): two answers share memory", s)
		}
	}
}
