package frac

import (
	"strings"

	"trellis/api"
	"trellis/radix"
	"trellis/zint"
)

// bar stands between the numerator and the denominator.
const bar = "/"

// Text: a in lowest terms, as a text.
func Text(a api.Frac) (string, api.Errno) {
	low, e := Of(a.Num, a.Den)
	if e != api.OK {
		return "", e
	}
	text := zint.Text(low.Num)
	if zint.Cmp(low.Den, zint.Of(1)) != 0 {
		text += bar + zint.Text(low.Den)
	}
	return text, api.OK
}

// Read: the fraction that s writes.
func Read(s string) (api.Frac, api.Errno) {
	before, behind, barred := strings.Cut(s, bar)
	num, e := zint.Read(before)
	if e != api.OK {
		return api.Frac{}, e
	}
	if !barred {
		return Of(num, zint.Of(1))
	}
	// Digits alone: here a sign is no part of the form.
	den, e := radix.ReadDec(behind)
	if e != api.OK {
		return api.Frac{}, e
	}
	return Of(num, api.Int{Mag: den})
}
