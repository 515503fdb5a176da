package approx

import (
	"strconv"
	"strings"

	"trellis/api"
	"trellis/nat"
	"trellis/radix"
	"trellis/zint"
)

// The limits of a decimal text.
const (
	maxBytes    = 4096
	maxExponent = 5000
)

// decimal is a decimal text in its pieces: the digits ahead of the point and behind it, and the exponent with its sign.
type decimal struct {
	neg                       bool
	whole, fraction, exponent string
}

// Sci: a rounded to n digits, with its exponent of ten.
func Sci(a api.Int, n int) (string, api.Errno) {
	if n < 1 || n > api.MaxSig {
		return "", api.ErrArg
	}
	if zint.Sign(a) == 0 {
		return "0", api.OK
	}
	digits, exponent := rounded(radix.Dec(a.Mag), n)
	var text strings.Builder
	if a.Neg {
		text.WriteByte('-')
	}
	text.WriteString(digits[:1])
	if n > 1 {
		text.WriteByte('.')
		text.WriteString(digits[1:])
	}
	text.WriteByte('e')
	text.WriteString(strconv.Itoa(exponent))
	return text.String(), api.OK
}

// rounded are n digits that write the number nearest to the one that text writes, and the power of ten that the first of them counts.
func rounded(text string, n int) (digits string, exponent int) {
	exponent = len(text) - 1
	if len(text) <= n {
		return padded(text, n-len(text)), exponent
	}
	kept := text[:n]
	if !nextIsNearer(kept, text[n:]) {
		return kept, exponent
	}
	number, _ := radix.ReadDec(kept)
	next := radix.Dec(nat.Add(number, []uint64{1}))
	// Nines alone become a 1 with one 0 too many behind it.
	return next[:n], exponent + len(next) - n
}

// nextIsNearer says if a number of which the digits kept are left, and the digits rest behind them are cut off, is nearer to the one that follows kept, or as near and kept is odd.
func nextIsNearer(kept, rest string) bool {
	rest = strings.TrimRight(rest, "0")
	if rest == "5" {
		last := kept[len(kept)-1]
		return (last-'0')%2 == 1
	}
	// Behind a point, digits have the order of their texts.
	return rest > "5"
}

// padded is text with so many zeros behind it, with none if there are fewer than none.
func padded(text string, zeros int) string {
	return text + strings.Repeat("0", max(zeros, 0))
}

// Read: the float64 nearest to the number that a decimal text writes.
func Read(s string) (float64, api.Errno) {
	if len(s) > maxBytes {
		return 0, api.ErrLarge
	}
	d, ok := cut(s)
	if !ok {
		return 0, api.ErrText
	}
	exponent, _ := zint.Read(d.exponent)
	if zint.CmpAbs(exponent, zint.Of(maxExponent)) > 0 {
		return 0, api.ErrLarge
	}
	places, _ := zint.Small(exponent)
	return d.value(int(places)), api.OK
}

// value is the float64 nearest to what d writes, its exponent being places.
func (d decimal) value(places int) float64 {
	places -= len(d.fraction)
	top, _ := radix.ReadDec(padded(d.whole+d.fraction, places))
	bottom, _ := radix.ReadDec(padded("1", -places))
	f, _ := Ratio(api.Int{Neg: d.neg, Mag: top}, api.Int{Mag: bottom})
	return f
}

// cut is s in its pieces, if it is a decimal text.
func cut(s string) (d decimal, ok bool) {
	number, exponent := s, "0"
	if at := strings.IndexAny(s, "eE"); at >= 0 {
		number, exponent = s[:at], s[at+1:]
	}
	whole, fraction, point := strings.Cut(unsigned(number), ".")
	if !areDigits(whole) || point && !areDigits(fraction) || !areDigits(unsigned(exponent)) {
		return decimal{}, false
	}
	return decimal{strings.HasPrefix(s, "-"), whole, fraction, exponent}, true
}

// unsigned is s without the sign at its beginning, if there is one.
func unsigned(s string) string {
	if strings.HasPrefix(s, "-") || strings.HasPrefix(s, "+") {
		return s[1:]
	}
	return s
}

// areDigits says if s is one or more of the digits 0 to 9, and nothing else.
func areDigits(s string) bool {
	for _, sign := range s {
		if sign < '0' || sign > '9' {
			return false
		}
	}
	return s != ""
}
