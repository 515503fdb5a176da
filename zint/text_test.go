package zint_test

import (
	"fmt"
	"math"
	"strconv"
	"strings"
	"testing"

	"trellis/api"
	"trellis/check"
	"trellis/zint"
)

// P5.12.
func TestText(t *testing.T) {
	for _, c := range []struct {
		a    api.Int
		want string
	}{
		{num(-1000), "-1000"},
		{num(1000), "1000"},
		{num(7), "7"},
		{minus(7, 0), "-7"},
		{num(-10), "-10"},
		{plus(high - 1), "9223372036854775807"},
		{minus(high), "-9223372036854775808"},
		{plus(top, 0, 0), "18446744073709551615"},
		{minus(0, 1), "-18446744073709551616"},
		{minus(0, 0, 1, 0), "-340282366920938463463374607431768211456"},
		{plus(top, top), "340282366920938463463374607431768211455"},
	} {
		check.Same(t, fmt.Sprintf("Text(%v)", c.a), zint.Text(c.a), c.want)
	}
	for _, zero := range zeros() {
		check.Same(t, fmt.Sprintf("Text(%v)", zero), zint.Text(zero), "0")
	}
	for _, n := range []int64{math.MinInt64, math.MinInt64 + 1, -1e18, -999999999999999999, -1, 0, 1, 9, 10, 99, 100, 1e18, math.MaxInt64} {
		check.Same(t, fmt.Sprintf("Text of %d", n), zint.Text(zint.Of(n)), strconv.FormatInt(n, 10))
	}
}

// P5.13: each number with each sign that may stand ahead, and with zeros in front.
func TestRead(t *testing.T) {
	for _, c := range []struct {
		digits string
		size   list
	}{
		{"0", nil},
		{"1", list{1}},
		{"7", list{7}},
		{"42", list{42}},
		{"1000", list{1000}},
		{"9223372036854775807", list{high - 1}},
		{"9223372036854775808", list{high}},
		{"18446744073709551615", list{top}},
		{"18446744073709551616", list{0, 1}},
		{"340282366920938463463374607431768211455", list{top, top}},
		{"340282366920938463463374607431768211456", list{0, 0, 1}},
	} {
		for sign, neg := range map[string]int{"": 0, "+": 0, "-": 1, "\xe2\x88\x92": 1} {
			for _, front := range []string{"", "0", "00", strings.Repeat("0", 1000)} {
				s := sign + front + c.digits
				got, e := zint.Read(s)
				check.Int(t, fmt.Sprintf("Read(%q)", s), got, api.Int{Neg: neg == 1 && c.size != nil, Mag: c.size})
				check.Same(t, fmt.Sprintf("Read(%q)", s), e, api.OK)
			}
		}
	}
}

// P5.13: all other texts.
func TestReadWrongText(t *testing.T) {
	for _, s := range []string{
		"", "-", "+", "\xe2\x88\x92", "+-1", "-+1", "--1", "++1", "\u2212\u22121", "\u2212-1", "-\u22121", "+\u22121", "\u2212+1",
		" 1", "1 ", "- 1", "+ 1", "\u2212 1", " -1", "1_0", "-1_0", "_1", "1a", "-a", "ff", "0x10", "-0x10", "1e3", "1.0", "1,0", "1-", "1+", "1\u2212", "1-1", "-1-", "1\u22121",
		"\n1", "1\n", "1\r\n", "\t1", "\x001", "1\x00", "-\x001", "\ufeff1", "\ufeff-1", "(1)", "'1", "O", "l",
		"\x921", "\x88\x921", "\xe21", "\xe2\x881", "\xe2\x88", "\xe2", "\xe2\x88\x911", "\xe2\x88\x931", "\xe2\x89\x921", "\xe3\x88\x921", "\xe2\x88\x92\x921", "\xe2-1", "\xff1", "1\xff",
		"\u20131", "\u20141", "\u20101", "\u20111", "\u00ad1", "\uff0d1", "\ufe631", "\u207b1", "\uff0b1", "\ufe621", "\u207a1", "\u2795" + "1", "\u2796" + "1",
		"\u0661", "-\u0661", "\uff11", "-\uff11", "\u00b2", "\u2460", "\U0001d7ce", "1\u0661",
	} {
		got, e := zint.Read(s)
		check.Int(t, fmt.Sprintf("Read(%q)", s), got, plus())
		check.Same(t, fmt.Sprintf("Read(%q)", s), e, api.ErrText)
	}
}

// P5.13: which bytes may stand alone, at the beginning, at the end, and behind a sign.
func TestReadBytes(t *testing.T) {
	for b := range 256 {
		sign := string([]byte{byte(b)})
		digit := '0' <= b && b <= '9'
		for s, good := range map[string]int{sign: 0, "1" + sign: 0, "-" + sign: 0, sign + "1": 1} {
			want := api.ErrText
			if digit || good == 1 && (b == '+' || b == '-') {
				want = api.OK
			}
			_, e := zint.Read(s)
			check.Same(t, fmt.Sprintf("Read(%q)", s), e, want)
		}
	}
}

// P5.12, P5.13 and P13: there and back, for numbers of any length.
func TestThereAndBack(t *testing.T) {
	for _, a := range check.Integers() {
		text := zint.Text(a)
		back, e := zint.Read(text)
		check.Int(t, fmt.Sprintf("Read(%q)", text), back, zint.Least(a))
		check.Same(t, fmt.Sprintf("Read(%q)", text), e, api.OK)
	}
	long := strings.Repeat("1234567890", 2000)
	for sign, want := range map[string]string{"": long, "+": long, "-": "-" + long, "\u2212": "-" + long} {
		a, e := zint.Read(sign + "000" + long)
		check.Same(t, "Read of a long text", e, api.OK)
		check.Same(t, "a long text", zint.Text(a) == want, true)
		_, e = zint.Read(sign + long + "-")
		check.Same(t, "Read of a long wrong text", e, api.ErrText)
	}
}
