package approx_test

import (
	"fmt"
	"math"
	"strconv"
	"strings"
	"testing"

	"trellis/api"
	"trellis/approx"
	"trellis/check"
	"trellis/zint"
)

// whole is the integer that s writes.
func whole(t *testing.T, s string) api.Int {
	t.Helper()
	a, e := zint.Read(s)
	check.Same(t, fmt.Sprintf("zint.Read(%q)", s), e, api.OK)
	return a
}

// holdSci asks for the text of a with n digits.
func holdSci(t *testing.T, a api.Int, n int, want string, wantE api.Errno) {
	t.Helper()
	got, e := approx.Sci(a, n)
	check.Same(t, fmt.Sprintf("Sci(%v, %d)", a, n), got, want)
	check.Same(t, fmt.Sprintf("Sci(%v, %d)", a, n), e, wantE)
}

// P7.6.
func TestSci(t *testing.T) {
	nines := strings.Repeat("9", 40)
	for _, c := range []struct {
		a    string
		n    int
		want string
	}{
		{"12345", 3, "1.23e4"},
		{"99950", 3, "1.00e5"},
		{"99949", 3, "9.99e4"},
		{"99951", 3, "1.00e5"},
		{"25", 1, "2e1"},
		{"35", 1, "4e1"},
		{"85", 1, "8e1"},
		{"95", 1, "1e2"},
		{"94", 1, "9e1"},
		{"96", 1, "1e2"},
		{"99", 1, "1e2"},
		{"5", 1, "5e0"},
		{"9", 1, "9e0"},
		{"10", 1, "1e1"},
		{"15", 1, "2e1"},
		{"14", 1, "1e1"},
		{"105", 2, "1.0e2"},
		{"115", 2, "1.2e2"},
		{"7", 3, "7.00e0"},
		{"7", 1, "7e0"},
		{"10", 2, "1.0e1"},
		{"100", 2, "1.0e2"},
		{"100", 3, "1.00e2"},
		{"100", 4, "1.000e2"},
		{"12350", 3, "1.24e4"},
		{"12450", 3, "1.24e4"},
		{"12450", 4, "1.245e4"},
		{"12450", 5, "1.2450e4"},
		{"12450", 6, "1.24500e4"},
		{"12450000000000000000000001", 3, "1.25e25"},
		{"12450000000000000000000000", 3, "1.24e25"},
		{"12449999999999999999999999", 3, "1.24e25"},
		{"12550000000000000000000000", 3, "1.26e25"},
		{"12549999999999999999999999", 3, "1.25e25"},
		{"12345678901", 10, "1.234567890e10"},
		{"18446744073709551616", 20, "1.8446744073709551616e19"},
		{"18446744073709551616", 19, "1.844674407370955162e19"},
		{"7", 40, "7." + strings.Repeat("0", 39) + "e0"},
		{nines, 40, "9." + nines[1:] + "e39"},
		{nines, 39, "1." + strings.Repeat("0", 38) + "e40"},
		{nines + "4", 40, "9." + nines[1:] + "e40"},
		{nines + "5", 40, "1." + strings.Repeat("0", 39) + "e41"},
		{"1" + strings.Repeat("0", 1000), 2, "1.0e1000"},
		{"1" + strings.Repeat("0", 1000) + "1", 1, "1e1001"},
		{"15" + strings.Repeat("0", 1000), 1, "2e1001"},
		{"25" + strings.Repeat("0", 1000), 1, "2e1001"},
		{"25" + strings.Repeat("0", 1000) + "1", 1, "3e1002"},
	} {
		holdSci(t, whole(t, c.a), c.n, c.want, api.OK)
		holdSci(t, whole(t, "-"+c.a), c.n, "-"+c.want, api.OK)
	}
	holdSci(t, minus(7, 0, 0), 2, "-7.0e0", api.OK)
	holdSci(t, plus(0, 1, 0), 3, "1.84e19", api.OK)
	for _, zero := range check.Zeros() {
		for n := 1; n <= 40; n++ {
			holdSci(t, zero, n, "0", api.OK)
		}
	}
	for _, a := range append(check.Zeros(), num(7), num(-99), plus(top, top)) {
		for _, n := range []int{math.MinInt, -1, 0, 41, 42, math.MaxInt} {
			holdSci(t, a, n, "", api.ErrArg)
		}
	}
}

// rounding is a number that can be written with n digits: count times 10^(exponent - n + 1).
type rounding struct{ count, exponent int }

// written is the text of r with n digits.
func (r rounding) written(n int) string {
	digits := strconv.Itoa(r.count)
	if n > 1 {
		digits = digits[:1] + "." + digits[1:]
	}
	return digits + "e" + strconv.Itoa(r.exponent)
}

// power is 10^n.
func power(n int) int {
	p := 1
	for range n {
		p *= 10
	}
	return p
}

// P7.6 by a search among all numbers that can be written so.
func TestSciBySearch(t *testing.T) {
	for n := 1; n <= 3; n++ {
		var all []rounding
		for exponent := range 6 {
			for count := power(n - 1); count < power(n); count++ {
				all = append(all, rounding{count, exponent})
			}
		}
		// A thousand times as much, so that what stands behind the point is whole.
		size := func(r rounding) int { return r.count * power(3+r.exponent) / power(n-1) }
		for a := 1; a < 13000; a += 1 + a/600 {
			near := all[0]
			for _, r := range all {
				far, old := distance(size(r), 1000*a), distance(size(near), 1000*a)
				unit := power(3+min(r.exponent, near.exponent)) / power(n-1)
				if far < old || far == old && size(r)/unit%2 == 0 {
					near = r
				}
			}
			holdSci(t, num(a), n, near.written(n), api.OK)
		}
	}
}

func distance(a, b int) int {
	return max(a-b, b-a)
}

// P7.6 against the language's own texts of whole float64.
func TestSciByFloats(t *testing.T) {
	for i, w := range check.Mixed(2000, 11) {
		a := int(w >> (11 + i%53))
		if a == 0 {
			continue
		}
		for _, n := range []int{1, 2, 5, 9, 15, 16, 17, 20} {
			digits, exponent, _ := strings.Cut(strconv.FormatFloat(float64(a), 'e', n-1, 64), "e+")
			holdSci(t, num(a), n, digits+"e"+strings.TrimPrefix(exponent, "0"), api.OK)
		}
	}
}

// holdRead asks for the number that s writes, and for the errno.
func holdRead(t *testing.T, s string, want float64, wantE api.Errno) {
	t.Helper()
	got, e := approx.Read(s)
	float(t, fmt.Sprintf("Read(%.60q)", s), got, want)
	check.Same(t, fmt.Sprintf("Read(%.60q)", s), e, wantE)
}

// P7.7.
func TestRead(t *testing.T) {
	for _, c := range []struct {
		s    string
		want float64
	}{
		{"0.1", math.Float64frombits(0x3fb999999999999a)},
		{"1e400", math.Inf(1)},
		{"0.1e1", 1},
		{"5E-0002", 0.05},
		{"0", 0},
		{"0.0", 0},
		{"0e0", 0},
		{"0e5000", 0},
		{"0.000E-5000", 0},
		{"00.00e00", 0},
		{"7", 7},
		{"007", 7},
		{"7.0", 7},
		{"7.00e+00", 7},
		{"70e-1", 7},
		{"0.07e2", 7},
		{"12.5", 12.5},
		{"12.5e3", 12500},
		{"12.5e-3", 0.0125},
		{"12.5E+3", 12500},
		{"1234567890123456789012345678901234567890", 1.2345678901234568e39},
		{"1e22", 1e22},
		{"1e23", 1e23},
		{"8.5e-17", 8.5e-17},
		{"1e-400", 0},
		{"1e5000", math.Inf(1)},
		{"1e-5000", 0},
		{"1e005000", math.Inf(1)},
		{"9007199254740993", 9007199254740992},
		{"9007199254740992.9", 9007199254740992},
		{"9007199254740993.000000000000000000000000000000000001", 9007199254740994},
		{"9007199254740992.999999999999999999999999999999999999", 9007199254740992},
		{"9007199254740993" + strings.Repeat("0", 3000) + "e-3000", 9007199254740992},
		{"9007199254740993" + strings.Repeat("0", 3000) + "1e-3001", 9007199254740994},
		{"2.4703282292062327e-324", 0},
		{"2.4703282292062328e-324", least},
		{"5e-324", least},
		{"7.4e-324", least},
		{"7.5e-324", 2 * least},
		{"2.2250738585072011e-308", 0x1p-1022 - least},
		{"2.2250738585072014e-308", 0x1p-1022},
		{"1.7976931348623157e308", most},
		{"1.7976931348623158e308", most},
		{"1.7976931348623159e308", math.Inf(1)},
		{"0." + strings.Repeat("0", 4000) + "1e4001", 1},
		{"1" + strings.Repeat("0", 4000) + "e-4000", 1},
		{strings.Repeat("9", 4000) + "e-4000", 1},
		{"0." + strings.Repeat("9", 4000), 1},
		{"1e-" + strings.Repeat("0", 4000) + "1", 0.1},
		{"1e" + strings.Repeat("0", 4000), 1},
	} {
		below := -c.want
		if c.want == 0 {
			below = 0
		}
		holdRead(t, c.s, c.want, api.OK)
		holdRead(t, "+"+c.s, c.want, api.OK)
		holdRead(t, "-"+c.s, below, api.OK)
	}
}

// P7.7: all other texts.
func TestReadWrongText(t *testing.T) {
	for _, s := range []string{
		"", "1.", ".5", "1e+", " 1", "1_0", "inf", "e", "E5", ".", "-", "+", "-.5", "+.", "-.", "1e", "1e-", "1E+", "1.e5", ".5e5", "1.5e", ".e1", "-e1", "+e1",
		"--1", "++1", "+-1", "-+1", "1-", "1+", "1-1", "1e--1", "1e++1", "1e+-1", "1e-+1", "1e1-", "1.-5", "1.+5", "-1.-5",
		"1.2.3", "1..2", "1e2e3", "1e2E3", "1ee2", "1eE2", "1e2.5", "1e.5", "1e2.", "1,5", "1e1_0", "1._5", "1_.5", "_1",
		"1 ", " 1", "1 e5", "1e 5", "1 .5", "- 1", "1e- 5", "\t1", "1\n", "1\r\n", "\n", "1\x00", "\x001", "1\x00.5",
		"inf", "Inf", "+inf", "-Inf", "infinity", "nan", "NaN", "0x10", "0x1p4", "1p4", "0b1", "1d5", "1f", "ff", "a", "1a", "1ea", "1.a", "O", "l",
		"\u22121", "1e\u22121", "1.\u0661", "\u0661", "1e\u0661", "\uff11", "1\uff0e5", "1\u00b75", "\ufeff1", "\u00b2", "1\xff", "\xff", "1e\xff", "1.\xff", "1e5\u0665", "1\uff455",
	} {
		holdRead(t, s, 0, api.ErrText)
	}
}

// P7.7: which bytes may stand at each place of a text.
func TestReadBytes(t *testing.T) {
	const digits = "0123456789"
	for _, c := range []struct{ front, back, good string }{
		{"", "", digits},
		{"", "1", digits + "+-"},
		{"", "1.5e+5", digits + "+-"},
		{"-", "1", digits},
		{"1", "1", digits + ".eE"},
		{"1", "", digits},
		{"1.", "5", digits},
		{"1.5", "5", digits + "eE"},
		{"1e", "5", digits + "+-"},
		{"1.5E", "0", digits + "+-"},
		{"1e-", "5", digits},
		{"1e-5", "", digits},
		{"1.5", "e5", digits},
		{"1", "-5", "eE"},
		{"1", "5e5", digits + "."},
	} {
		for b := range 256 {
			s := c.front + string([]byte{byte(b)}) + c.back
			want := api.ErrText
			if strings.IndexByte(c.good, byte(b)) >= 0 {
				want = api.OK
			}
			_, e := approx.Read(s)
			check.Same(t, fmt.Sprintf("Read(%q)", s), e, want)
		}
	}
}

// P7.7: the length ahead of the form, the form ahead of the exponent.
func TestReadLimits(t *testing.T) {
	for _, c := range []struct {
		s     string
		want  float64
		wantE api.Errno
	}{
		{strings.Repeat("0", 4095) + "1", 1, api.OK},
		{"-" + strings.Repeat("0", 4094) + "1", -1, api.OK},
		{strings.Repeat("9", 4096), math.Inf(1), api.OK},
		{"1." + strings.Repeat("0", 4094), 1, api.OK},
		{"1e" + strings.Repeat("0", 4093) + "2", 100, api.OK},
		{strings.Repeat("0", 4096) + "1", 0, api.ErrLarge},
		{"1." + strings.Repeat("0", 4095), 0, api.ErrLarge},
		{"1e" + strings.Repeat("0", 4095), 0, api.ErrLarge},
		{strings.Repeat("x", 4096), 0, api.ErrText},
		{strings.Repeat("x", 4097), 0, api.ErrLarge},
		{strings.Repeat(" ", 5000), 0, api.ErrLarge},
		{strings.Repeat("\u0661", 2048), 0, api.ErrText},
		{strings.Repeat("\u0661", 2049), 0, api.ErrLarge},
		{"1e4999", math.Inf(1), api.OK},
		{"1e5000", math.Inf(1), api.OK},
		{"1e5001", 0, api.ErrLarge},
		{"1e+5001", 0, api.ErrLarge},
		{"1e-5001", 0, api.ErrLarge},
		{"-1E-5001", 0, api.ErrLarge},
		{"0e5001", 0, api.ErrLarge},
		{"0.0e-5001", 0, api.ErrLarge},
		{"1e00005001", 0, api.ErrLarge},
		{"1e-00005000", 0, api.OK},
		{"1e10000", 0, api.ErrLarge},
		{"1e50000", 0, api.ErrLarge},
		{"1e18446744073709551616", 0, api.ErrLarge},
		{"1e18446744073709551617", 0, api.ErrLarge},
		{"1e-9223372036854775808", 0, api.ErrLarge},
		{"1e" + strings.Repeat("9", 4094), 0, api.ErrLarge},
		{"1e-" + strings.Repeat("9", 4093), 0, api.ErrLarge},
		{"x1e9999", 0, api.ErrText},
		{"1.e9999", 0, api.ErrText},
		{"1e9999x", 0, api.ErrText},
		{"1e9999.5", 0, api.ErrText},
		{"." + strings.Repeat("9", 4095), 0, api.ErrText},
		{"." + strings.Repeat("9", 4096), 0, api.ErrLarge},
	} {
		holdRead(t, c.s, c.want, c.wantE)
	}
}

// P7.7 against the language's own reading, for texts of many lengths.
func TestReadByLanguage(t *testing.T) {
	for i, w := range check.Mixed(4000, 5) {
		digits := strconv.FormatUint(w, 10)
		if i%3 == 0 {
			digits += strconv.FormatUint(w*w+1, 10)
		}
		point := 1 + i%len(digits)
		s := digits[:point]
		if point < len(digits) {
			s += "." + digits[point:]
		}
		s += "e" + strconv.Itoa(int(w>>32)%700-350)
		want, _ := strconv.ParseFloat(s, 64)
		holdRead(t, s, want, api.OK)
		if want != 0 {
			holdRead(t, "-"+s, -want, api.OK)
		}
	}
}
