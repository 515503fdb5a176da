package frac_test

import (
	"fmt"
	"strings"
	"testing"

	"trellis/api"
	"trellis/check"
	"trellis/frac"
	"trellis/zint"
)

// P8.5.
func TestText(t *testing.T) {
	for _, c := range []struct {
		a    api.Frac
		want string
	}{
		{over(-4, 6), "-2/3"},
		{over(4, -6), "-2/3"},
		{over(-4, -6), "2/3"},
		{over(8, 4), "2"},
		{over(8, -4), "-2"},
		{over(0, 7), "0"},
		{over(0, -7), "0"},
		{over(1, 1), "1"},
		{over(-1, 1), "-1"},
		{over(1, -2), "-1/2"},
		{over(10, 3), "10/3"},
		{over(3, 10), "3/10"},
		{over(1000, 10), "100"},
		{of(minus(0, 0), plus(3, 0)), "0"},
		{of(plus(3, 0), minus(9, 0, 0)), "-1/3"},
		{of(plus(0, 1), plus(top)), "18446744073709551616/18446744073709551615"},
		{of(minus(top), plus(0, 1)), "-18446744073709551615/18446744073709551616"},
		{of(plus(0, 0, 2), minus(0, 2)), "-18446744073709551616"},
	} {
		got, e := frac.Text(c.a)
		check.Same(t, fmt.Sprintf("Text(%v)", c.a), got, c.want)
		check.Same(t, fmt.Sprintf("Text(%v)", c.a), e, api.OK)
	}
}

// P8.6.
func TestRead(t *testing.T) {
	for s, want := range map[string]api.Frac{
		"+4/06":                               over(2, 3),
		"12":                                  over(12, 1),
		"-0/9":                                over(0, 1),
		"0":                                   over(0, 1),
		"-0":                                  over(0, 1),
		"+12":                                 over(12, 1),
		"-0012":                               over(-12, 1),
		"\u221212":                            over(-12, 1),
		"\u22126/4":                           over(-3, 2),
		"\u22120/4":                           over(0, 1),
		"-6/4":                                over(-3, 2),
		"6/4":                                 over(3, 2),
		"6/1":                                 over(6, 1),
		"6/0001":                              over(6, 1),
		"6/2":                                 over(3, 1),
		"-1/18446744073709551616":             of(num(-1), plus(0, 1)),
		"18446744073709551615/1":              of(plus(top), num(1)),
		"-18446744073709551616/6":             of(minus(high), num(3)),
		strings.Repeat("0", 999) + "1/2":      over(1, 2),
		"1/" + strings.Repeat("0", 999) + "2": over(1, 2),
	} {
		got, e := frac.Read(s)
		hold(t, fmt.Sprintf("Read(%q)", s), got, e, want)
	}
}

// P8.6: a denominator of 0, where all else is of the second form.
func TestReadZero(t *testing.T) {
	for _, s := range []string{"1/0", "0/0", "-1/0", "+0/0", "-0/00", "\u22127/000", "18446744073709551616/0", "1/" + strings.Repeat("0", 1000)} {
		got, e := frac.Read(s)
		holdRefusal(t, fmt.Sprintf("Read(%q)", s), got, e, api.ErrZero)
	}
}

// P8.6: all other texts, those among them that have a 0 behind the bar.
func TestReadWrongText(t *testing.T) {
	for _, s := range []string{
		"", "/", "//", "/2", "/0", "1/", "0/", "-/2", "+/2", "-/0", "\u2212/2", "1//2", "1//0", "1/2/3", "1/2/", "1/0/", "1/0/1", "/1/2", "1/2/0", "1/0/0",
		"1/-2", "1/+2", "1/\u22122", "1/-0", "1/+0", "1/\u22120", "1/-", "1/+", "-1/-2", "1-/2", "1/2-", "--1/2", "+-1/2",
		"1 /2", "1/ 2", " 1/2", "1/2 ", "1 /0", "1/ 0", "1/0 ", "1 2", "1\n/2", "1/2\n", "1/2\r", "1/\t2", "\x001/2", "1/2\x00", "\ufeff1/2",
		"x/0", "0/x", "x/2", "1/x", "1/0x", "1/0x1", "0x1/2", "a", "a/b", "1/a", "1/2a", "1_0/3", "1/1_0", "1_0/0", "1.5", "1.0/2", "1/2.0", "1e3/2", "1/1e3",
		"1\u22152", "1\u20442", "\u00bd", "\u00bd/2", "1\\2", "1:2", "1/\u0661", "\u0661/2", "1/\uff12", "1/2\u00b2", "1/\xff", "\xff/1", "1/2\xe2\x88\x92", "\xe2\x88/2",
	} {
		got, e := frac.Read(s)
		holdRefusal(t, fmt.Sprintf("Read(%q)", s), got, e, api.ErrText)
	}
}

// P8.6: each byte at each kind of place.
func TestReadEachByte(t *testing.T) {
	for b := range 256 {
		one := string([]byte{byte(b)})
		digit := b >= '0' && b <= '9'
		takes := map[string]bool{
			one + "1/2":      digit || b == '+' || b == '-',
			"1" + one:        digit,
			"1/" + one:       digit && b != '0',
			"1/2" + one:      digit,
			"1" + one + "/2": digit,
			"1/" + one + "2": digit,
			"1" + one + "2":  digit || b == '/',
		}
		for s, taken := range takes {
			_, e := frac.Read(s)
			switch {
			case s == "1/0":
				check.Same(t, fmt.Sprintf("Read(%q)", s), e, api.ErrZero)
			case taken:
				check.Same(t, fmt.Sprintf("Read(%q)", s), e, api.OK)
			default:
				check.Same(t, fmt.Sprintf("Read(%q)", s), e, api.ErrText)
			}
		}
	}
}

// P8.5, P8.6 and P13: what is written is read back, in lowest terms.
func TestThereAndBack(t *testing.T) {
	for _, a := range fractions() {
		low, _ := frac.Of(a.Num, a.Den)
		text, e := frac.Text(a)
		check.Same(t, fmt.Sprintf("Text(%v)", a), e, api.OK)
		back, e := frac.Read(text)
		hold(t, fmt.Sprintf("Read(%q)", text), back, e, low)
		again, _ := frac.Text(back)
		check.Same(t, fmt.Sprintf("Text of what Read(%q) answers", text), again, text)
		check.Same(t, fmt.Sprintf("Text(%v) has a bar", a), strings.Contains(text, "/"), zint.Cmp(low.Den, num(1)) != 0)
	}
}
