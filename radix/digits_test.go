package radix_test

import (
	"fmt"
	"slices"
	"strings"
	"testing"

	"trellis/api"
	"trellis/check"
	"trellis/divnat"
	"trellis/mulnat"
	"trellis/nat"
	"trellis/radix"
)

// Texts are held here against reckoning digit by digit, one division or product by the base for each.

// plainText takes the digits of a off from the lowest on.
func plainText(a list, base int) string {
	var digits []byte
	for len(digits) == 0 || len(a) > 0 {
		var rest uint64
		a, rest, _ = divnat.Word(a, uint64(base))
		sign := byte('0' + rest)
		if rest > 9 {
			sign = byte('a' + rest - 10)
		}
		digits = append(digits, sign)
	}
	slices.Reverse(digits)
	return string(digits)
}

// plainRead takes the small digits of s from the highest on.
func plainRead(s string, base int) list {
	var a list
	for _, sign := range []byte(s) {
		value := uint64(sign - '0')
		if sign >= 'a' {
			value = uint64(sign-'a') + 10
		}
		a = nat.Add(mulnat.Word(a, uint64(base)), list{value})
	}
	return a
}

// plainGroups cuts three digits after three off the end.
func plainGroups(s string) string {
	groups := ""
	for len(s) > 3 {
		groups = "_" + s[len(s)-3:] + groups
		s = s[:len(s)-3]
	}
	return s + groups
}

func minusOne(a list) list {
	less, _ := nat.Sub(a, list{1})
	return less
}

// holdThere asks for the text of a in the base, and for a back from it, from its capitals and behind zeros.
func holdThere(t *testing.T, a list, base int) {
	t.Helper()
	want := plainText(a, base)
	text, e := radix.Text(a, base)
	call := fmt.Sprintf("Text(%#x, %d)", a, base)
	check.Same(t, call, text, want)
	check.Same(t, call, e, api.OK)
	for _, s := range []string{want, strings.ToUpper(want), "0" + want, strings.Repeat("0", 70) + want} {
		back, e := radix.Read(s, base)
		call := fmt.Sprintf("Read(%q, %d)", s, base)
		check.Words(t, call, back, nat.Least(a))
		check.Same(t, call, e, api.OK)
	}
}

// holdTen asks for all that is in base ten alone.
func holdTen(t *testing.T, a list) {
	t.Helper()
	text := plainText(a, 10)
	groups := plainGroups(text)
	check.Same(t, fmt.Sprintf("Dec(%#x)", a), radix.Dec(a), text)
	check.Same(t, fmt.Sprintf("Digits(%#x)", a), radix.Digits(a), len(text))
	check.Same(t, fmt.Sprintf("Grouped(%#x)", a), radix.Grouped(a), groups)
	for _, s := range []string{text, groups, "0_0" + text, strings.Join(strings.Split(text, ""), "_")} {
		back, e := radix.ReadGrouped(s)
		check.Words(t, fmt.Sprintf("ReadGrouped(%q)", s), back, nat.Least(a))
		check.Same(t, fmt.Sprintf("ReadGrouped(%q)", s), e, api.OK)
	}
}

// P4.1, P4.2 and P13: there and back, in each base.
func TestThereAndBack(t *testing.T) {
	for base := 2; base <= 36; base++ {
		for _, a := range check.Samples() {
			holdThere(t, a, base)
		}
		for n := range 20 {
			holdThere(t, check.Mixed(n, uint64(base*100+n)), base)
		}
	}
}

// P4.1 and P4.2 at the powers of the base, where a digit comes in: one, no digit but zeros behind it, and the greatest digit throughout.
func TestPowersOfTheBase(t *testing.T) {
	for base := 2; base <= 36; base++ {
		greatest := plainText(list{uint64(base - 1)}, base)
		power := list{1}
		for n := 1; n <= 260; n++ {
			power = mulnat.Word(power, uint64(base))
			if n > 20 && n%19 > 1 && n%13 > 1 && n%63 > 1 {
				continue
			}
			text, _ := radix.Text(power, base)
			check.Same(t, fmt.Sprintf("Text(%d^%d)", base, n), text, "1"+strings.Repeat("0", n))
			below, _ := radix.Text(minusOne(power), base)
			check.Same(t, fmt.Sprintf("Text(%d^%d - 1)", base, n), below, strings.Repeat(greatest, n))
			back, _ := radix.Read(text, base)
			check.Words(t, fmt.Sprintf("Read(%d^%d)", base, n), back, power)
			back, _ = radix.Read(below, base)
			check.Words(t, fmt.Sprintf("Read(%d^%d - 1)", base, n), back, minusOne(power))
		}
	}
}

// P4.2 for each length of a text, so that it is cut everywhere.
func TestLengths(t *testing.T) {
	const digits = "9081726354afzbkyq"
	for _, base := range []int{2, 3, 10, 16, 36} {
		var s string
		for i := range 300 {
			value := strings.IndexByte("0123456789abcdefghijklmnopqrstuvwxyz", digits[i*i%len(digits)]) % base
			s += plainText(list{uint64(value)}, base)
			got, e := radix.Read(s, base)
			check.Words(t, fmt.Sprintf("Read(%q, %d)", s, base), got, plainRead(s, base))
			check.Same(t, fmt.Sprintf("Read(%q, %d)", s, base), e, api.OK)
		}
	}
}

// P4.3, P4.4, P4.5 and P4.6.
func TestTen(t *testing.T) {
	for _, a := range check.Samples() {
		holdTen(t, a)
	}
	power := list{1}
	for range 130 {
		holdTen(t, power)
		holdTen(t, minusOne(power))
		power = mulnat.Word(power, 10)
	}
	for n := range 40 {
		holdTen(t, append(check.Mixed(n, uint64(n)), 0))
	}
}

// P4.1 to P4.6 for long numbers, beyond every limit of api.
func TestLong(t *testing.T) {
	for _, base := range []int{2, 10, 31, 36} {
		holdThere(t, check.Mixed(300, uint64(base)), base)
	}
	holdTen(t, check.Mixed(300, 7))
	const words = 1<<14 + 2
	bits := "1" + strings.Repeat("0", 64*words)
	text, _ := radix.Text(append(check.Repeat(0, words), 1), 2)
	check.Same(t, "Text of a long power of 2", text == bits, true)
	back, _ := radix.Read(bits, 2)
	check.Words(t, "Read of a long power of 2", back, append(check.Repeat(0, words), 1))
	nines := strings.Repeat("9", 20000)
	a, _ := radix.ReadDec(nines)
	check.Same(t, "Dec of many nines", radix.Dec(a) == nines, true)
	check.Same(t, "Digits of many nines", radix.Digits(a), 20000)
	check.Same(t, "Dec of a long power of ten", radix.Dec(nat.Add(a, list{1})) == "1"+strings.Repeat("0", 20000), true)
	back, _ = radix.ReadGrouped(radix.Grouped(a))
	check.Words(t, "ReadGrouped of many nines", back, a)
}
