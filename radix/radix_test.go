package radix_test

import (
	"fmt"
	"math"
	"strings"
	"testing"

	"trellis/api"
	"trellis/check"
	"trellis/radix"
)

const (
	top  = check.Top
	high = check.High
)

type list = []uint64

// wrongBases are outside 2 to 36.
func wrongBases() []int {
	return []int{1, 37, 0, -1, -2, -10, -36, 64, 256, 258, 1<<32 + 10, math.MinInt, math.MaxInt}
}

// P4.1.
func TestText(t *testing.T) {
	for _, c := range []struct {
		a    list
		base int
		want string
	}{
		{list{255}, 16, "ff"},
		{nil, 10, "0"},
		{list{0, 1}, 10, "18446744073709551616"},
		{list{35}, 36, "z"},
		{list{5, 0}, 2, "101"},
		{nil, 2, "0"},
		{list{0}, 36, "0"},
		{list{0, 0, 0}, 16, "0"},
		{list{1}, 2, "1"},
		{list{1, 0, 0}, 36, "1"},
		{list{2}, 2, "10"},
		{list{36}, 36, "10"},
		{list{35, 0}, 35, "10"},
		{list{top}, 2, strings.Repeat("1", 64)},
		{list{high}, 2, "1" + strings.Repeat("0", 63)},
		{list{high - 1}, 2, strings.Repeat("1", 63)},
		{list{top}, 8, "1777777777777777777777"},
		{list{top}, 10, "18446744073709551615"},
		{list{top, 0}, 16, "ffffffffffffffff"},
		{list{0x0123456789abcdef}, 16, "123456789abcdef"},
		{list{0, 0x0123456789abcdef, 0}, 16, "123456789abcdef0000000000000000"},
		{list{top}, 32, "fvvvvvvvvvvvv"},
		{list{top}, 36, "3w5e11264sgsf"},
		{list{top, top}, 10, "340282366920938463463374607431768211455"},
		{list{0, 0, 1}, 10, "340282366920938463463374607431768211456"},
		{list{0, 0, 1}, 16, "1" + strings.Repeat("0", 32)},
		{check.Repeat(top, 100), 16, strings.Repeat("f", 1600)},
	} {
		got, e := radix.Text(c.a, c.base)
		call := fmt.Sprintf("Text(%#x, %d)", c.a, c.base)
		check.Same(t, call, got, c.want)
		check.Same(t, call, e, api.OK)
	}
	for _, base := range wrongBases() {
		for _, a := range []list{nil, {0, 0}, {5}, {top, top}} {
			got, e := radix.Text(a, base)
			call := fmt.Sprintf("Text(%#x, %d)", a, base)
			check.Same(t, call, got, "")
			check.Same(t, call, e, api.ErrArg)
		}
	}
}

// P4.2.
func TestRead(t *testing.T) {
	for _, c := range []struct {
		s    string
		base int
		want list
	}{
		{"00Ff", 16, list{255}},
		{"0", 2, nil},
		{"0", 36, nil},
		{"1", 2, list{1}},
		{"10", 2, list{2}},
		{"10", 36, list{36}},
		{"z", 36, list{35}},
		{"Z", 36, list{35}},
		{"zZ", 36, list{35*36 + 35}},
		{"y", 35, list{34}},
		{"A", 11, list{10}},
		{strings.Repeat("0", 500), 10, nil},
		{strings.Repeat("0", 500) + "7", 10, list{7}},
		{strings.Repeat("0", 500) + "7", 8, list{7}},
		{"18446744073709551615", 10, list{top}},
		{"18446744073709551616", 10, list{0, 1}},
		{"0018446744073709551616", 10, list{0, 1}},
		{"3W5e11264SGSF", 36, list{top}},
		{"3w5e11264sgsg", 36, list{0, 1}},
		{strings.Repeat("1", 64), 2, list{top}},
		{"1" + strings.Repeat("0", 64), 2, list{0, 1}},
		{strings.Repeat("fF", 800), 16, check.Repeat(top, 100)},
		{"340282366920938463463374607431768211455", 10, list{top, top}},
		{"340282366920938463463374607431768211456", 10, list{0, 0, 1}},
	} {
		got, e := radix.Read(c.s, c.base)
		call := fmt.Sprintf("Read(%q, %d)", c.s, c.base)
		check.Words(t, call, got, c.want)
		check.Same(t, call, e, api.OK)
	}
}

// P4.2: ErrArg comes before ErrText, whatever the text.
func TestReadWrongBase(t *testing.T) {
	for _, base := range wrongBases() {
		for _, s := range []string{"", "0", "1", "11", "zz", "-", "\xff"} {
			got, e := radix.Read(s, base)
			call := fmt.Sprintf("Read(%q, %d)", s, base)
			check.Words(t, call, got, nil)
			check.Same(t, call, e, api.ErrArg)
		}
	}
}

// wrongTexts are no texts in any base: some of their characters look like digits, have one as their small letter,
// have the same lowest byte, or are broken off.
func wrongTexts() []string {
	return []string{
		"", " ", "-", "+", "_", "-1", "+1", "1 ", " 1", "1\n", "1_0", "1__0", "_1", "1_", "1.", "1,0", "0b-1", "1\x00", "\x001",
		"1é", "é", "1\u212a", "\u017f", "\u0130", "\u0131", "1\u0130", "\u0661", "\uff11", "\uff41", "\U00010030", "\ufffd", "\ufeff1",
		"\xff", "1\xff", "\xc3", "\xc31", "1\xe2\x84", "\x80", "\xb1", "1" + strings.Repeat("0", 100) + "\xb1" + strings.Repeat("0", 100),
	}
}

// P4.2: a text that is empty, or has a byte that is no digit of the base, at the beginning, between, at the end.
func TestReadWrongText(t *testing.T) {
	refuse := func(s string, base int) {
		t.Helper()
		got, e := radix.Read(s, base)
		call := fmt.Sprintf("Read(%q, %d)", s, base)
		check.Words(t, call, got, nil)
		check.Same(t, call, e, api.ErrText)
	}
	for _, s := range wrongTexts() {
		refuse(s, 2)
		refuse(s, 10)
		refuse(s, 36)
	}
	refuse("12x4", 10)
	refuse("2", 2)
	refuse("8", 8)
	refuse("a", 10)
	refuse("A", 10)
	refuse("z", 35)
	refuse("Z", 35)
	refuse("0x10", 16)
	refuse("0x1", 10)
	long := strings.Repeat("9", 300)
	for at := range len(long) {
		refuse(long[:at]+":"+long[at+1:], 10)
		refuse(long[:at]+"A"+long[at+1:], 10)
	}
}

// P4.2: which of the bytes are digits of which base, by themselves and behind others.
func TestReadBytes(t *testing.T) {
	const small, great = "0123456789abcdefghijklmnopqrstuvwxyz", "0123456789ABCDEFGHIJKLMNOPQRSTUVWXYZ"
	for base := 2; base <= 36; base++ {
		for b := range 256 {
			sign := string([]byte{byte(b)})
			value := max(strings.Index(small[:base], sign), strings.Index(great[:base], sign))
			alone, e1 := radix.Read(sign, base)
			behind, e2 := radix.Read("10"+sign, base)
			before, e3 := radix.Read(sign+"01", base)
			call := fmt.Sprintf("Read with byte %#x in base %d", b, base)
			if value < 0 {
				check.Same(t, call, [3]api.Errno{e1, e2, e3}, [3]api.Errno{api.ErrText, api.ErrText, api.ErrText})
				check.Words(t, call, alone, nil)
				check.Words(t, call, behind, nil)
				check.Words(t, call, before, nil)
				continue
			}
			check.Same(t, call, [3]api.Errno{e1, e2, e3}, [3]api.Errno{})
			check.Words(t, call, append(alone, 0)[:1], list{uint64(value)})
			check.Words(t, call, behind, list{uint64(base*base + value)})
			check.Words(t, call, before, list{uint64(value*base*base + 1)})
		}
	}
}

// P4.3, P4.4 and P4.5.
func TestDec(t *testing.T) {
	for _, c := range []struct {
		a       list
		dec     string
		grouped string
	}{
		{nil, "0", "0"},
		{list{0, 0}, "0", "0"},
		{list{7, 0}, "7", "7"},
		{list{9}, "9", "9"},
		{list{10}, "10", "10"},
		{list{99}, "99", "99"},
		{list{100}, "100", "100"},
		{list{123}, "123", "123"},
		{list{999}, "999", "999"},
		{list{1000}, "1000", "1_000"},
		{list{9999}, "9999", "9_999"},
		{list{10000}, "10000", "10_000"},
		{list{99999}, "99999", "99_999"},
		{list{100000}, "100000", "100_000"},
		{list{999999}, "999999", "999_999"},
		{list{1000000}, "1000000", "1_000_000"},
		{list{1234567}, "1234567", "1_234_567"},
		{list{1e19 - 1}, "9999999999999999999", "9_999_999_999_999_999_999"},
		{list{1e19}, "10000000000000000000", "10_000_000_000_000_000_000"},
		{list{top}, "18446744073709551615", "18_446_744_073_709_551_615"},
		{list{0, 1}, "18446744073709551616", "18_446_744_073_709_551_616"},
		{list{0, 1, 0}, "18446744073709551616", "18_446_744_073_709_551_616"},
		{list{0x6bc75e2d63100000, 5}, "100000000000000000000", "100_000_000_000_000_000_000"},
		{list{0x6bc75e2d630fffff, 5}, "99999999999999999999", "99_999_999_999_999_999_999"},
		{list{top, top}, "340282366920938463463374607431768211455", "340_282_366_920_938_463_463_374_607_431_768_211_455"},
	} {
		check.Same(t, fmt.Sprintf("Dec(%#x)", c.a), radix.Dec(c.a), c.dec)
		check.Same(t, fmt.Sprintf("Digits(%#x)", c.a), radix.Digits(c.a), len(c.dec))
		check.Same(t, fmt.Sprintf("Grouped(%#x)", c.a), radix.Grouped(c.a), c.grouped)
	}
}

// P4.3.
func TestReadDec(t *testing.T) {
	texts := append(wrongTexts(), "0", "7", "007", "1234567890", "18446744073709551616", "ff", "A", strings.Repeat("1234567890", 50))
	for _, s := range texts {
		want, wantE := radix.Read(s, 10)
		got, e := radix.ReadDec(s)
		check.Words(t, fmt.Sprintf("ReadDec(%q)", s), got, want)
		check.Same(t, fmt.Sprintf("ReadDec(%q)", s), e, wantE)
	}
	got, e := radix.ReadDec("18446744073709551616")
	check.Words(t, "ReadDec of 2^64", got, list{0, 1})
	check.Same(t, "ReadDec of 2^64", e, api.OK)
	got, e = radix.ReadDec("1_0")
	check.Words(t, "ReadDec with a mark", got, nil)
	check.Same(t, "ReadDec with a mark", e, api.ErrText)
}

// P4.6.
func TestReadGrouped(t *testing.T) {
	for _, c := range []struct {
		s    string
		want list
	}{
		{"1_234_567", list{1234567}},
		{"0_0_7", list{7}},
		{"12_34", list{1234}},
		{"0", nil},
		{"0_0", nil},
		{"7", list{7}},
		{"1234567", list{1234567}},
		{"1_2_3_4_5_6_7", list{1234567}},
		{"123456_7", list{1234567}},
		{"1_234567", list{1234567}},
		{"000_001", list{1}},
		{"18446744073709551616", list{0, 1}},
		{"18_446_744_073_709_551_616", list{0, 1}},
		{"1_8_4_4_6_7_4_4_0_7_3_7_0_9_5_5_1_6_1_6", list{0, 1}},
		{strings.Repeat("0_", 500) + "9", list{9}},
	} {
		got, e := radix.ReadGrouped(c.s)
		check.Words(t, fmt.Sprintf("ReadGrouped(%q)", c.s), got, c.want)
		check.Same(t, fmt.Sprintf("ReadGrouped(%q)", c.s), e, api.OK)
	}
	wrong := []string{
		"1__2", "_12", "12_", "12_34_", "_12_34", "1_2__3", "__", "___", "1___2", "12__", "__12", "_1_", "1 2", "1_ 2", "1_a", "a_1", "1a", "A", "f",
		"0x1", "-1_000", "+1_000", "1_000 ", "1,000", "1.000", "1'000", "1\u2017000", "1\uff3f000", "1_\xff", "\xff_1", "1_\u0130", "\u0661_1", "1_\x00", "1:", "1/",
	}
	for _, s := range append(wrong, wrongTexts()...) {
		if s == "1_0" {
			continue
		}
		got, e := radix.ReadGrouped(s)
		check.Words(t, fmt.Sprintf("ReadGrouped(%q)", s), got, nil)
		check.Same(t, fmt.Sprintf("ReadGrouped(%q)", s), e, api.ErrText)
	}
}
