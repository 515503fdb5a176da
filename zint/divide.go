package zint

import (
	"trellis/api"
	"trellis/divnat"
)

// Trunc: quotient rounded toward zero, and rest.
func Trunc(a, b api.Int) (api.Int, api.Int, api.Errno) {
	quotient, rest, e := divnat.DivMod(a.Mag, b.Mag)
	if e != api.OK {
		return api.Int{}, api.Int{}, e
	}
	return signed(a.Neg != b.Neg, quotient), signed(a.Neg, rest), api.OK
}

// Floor: quotient rounded down, and rest.
func Floor(a, b api.Int) (api.Int, api.Int, api.Errno) {
	quotient, rest, e := Trunc(a, b)
	if Sign(rest)*Sign(b) < 0 {
		// Rounded toward zero, a quotient below zero was rounded up.
		quotient, rest = Sub(quotient, Of(1)), Add(rest, b)
	}
	return quotient, rest, e
}

// Euclid: the quotient whose rest lies from 0 on below b's size, and that rest.
func Euclid(a, b api.Int) (api.Int, api.Int, api.Errno) {
	quotient, rest, e := Trunc(a, b)
	if Sign(rest) < 0 {
		// The rest goes up by b's size, so the quotient goes against b's sign.
		quotient, rest = Sub(quotient, Of(int64(Sign(b)))), Add(rest, Abs(b))
	}
	return quotient, rest, e
}

// Exact: a divided by b, where it leaves no rest.
func Exact(a, b api.Int) (api.Int, api.Errno) {
	quotient, e := divnat.Exact(a.Mag, b.Mag)
	if e != api.OK {
		return api.Int{}, e
	}
	return signed(a.Neg != b.Neg, quotient), api.OK
}

// Mod: the least residue of a from 0 on, modulo m.
func Mod(a, m api.Int) (api.Int, api.Errno) {
	_, rest, e := Euclid(a, m)
	return rest, e
}

// Sym: the residue r of a modulo m with -|m| < 2r <= |m|.
func Sym(a, m api.Int) (api.Int, api.Errno) {
	rest, e := Mod(a, m)
	if CmpAbs(Add(rest, rest), m) > 0 {
		rest = Sub(rest, Abs(m))
	}
	return rest, e
}
