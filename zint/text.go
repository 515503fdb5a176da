package zint

import (
	"strings"

	"trellis/api"
	"trellis/radix"
)

// The signs that may stand ahead of the digits. The long one is the character of three bytes that is made for minus.
const (
	plus      = "+"
	minus     = "-"
	longMinus = "\u2212"
)

// Text: a in base ten.
func Text(a api.Int) string {
	if Sign(a) < 0 {
		return minus + radix.Dec(a.Mag)
	}
	return radix.Dec(a.Mag)
}

// Read: the number that s writes.
func Read(s string) (api.Int, api.Errno) {
	neg, digits := cutSign(s)
	size, e := radix.ReadDec(digits)
	if e != api.OK {
		return api.Int{}, e
	}
	return signed(neg, size), api.OK
}

// cutSign is what the sign at the beginning of s says, if there is one, and s without it.
func cutSign(s string) (neg bool, digits string) {
	if digits, ok := strings.CutPrefix(s, plus); ok {
		return false, digits
	}
	if digits, ok := strings.CutPrefix(s, minus); ok {
		return true, digits
	}
	digits, neg = strings.CutPrefix(s, longMinus)
	return neg, digits
}
