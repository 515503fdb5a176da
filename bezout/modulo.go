package bezout

import (
	"trellis/api"
	"trellis/nat"
	"trellis/zint"
)

// Inverse: of a, modulo m.
func Inverse(a, m api.Int) (api.Int, api.Errno) {
	if zint.Sign(m) == 0 {
		return api.Int{}, api.ErrZero
	}
	g, x := leastMultiple(a, m)
	if zint.Cmp(g, zint.Of(1)) != 0 {
		return api.Int{}, api.ErrNone
	}
	return x, api.OK
}

// leastMultiple is the least number above 0 that a multiple of a is like, modulo m, which is not 0, and how often a is taken for it:
// their greatest common divisor, and the x that Ext has for it.
func leastMultiple(a, m api.Int) (g, x api.Int) {
	// The rest of a has the same multiples, and spares the y of a long a, which nobody asks for.
	rest, _ := zint.Mod(a, m)
	g, x, _ = Ext(rest, m)
	return g, x
}

// PowMod: a to the power e, modulo m.
func PowMod(a, e, m api.Int) (api.Int, api.Errno) {
	if zint.Sign(e) < 0 {
		return api.Int{}, api.ErrArg
	}
	rest, err := zint.Mod(a, m)
	if err != api.OK {
		return api.Int{}, err
	}
	// Modulo 1 there is only 0.
	power, _ := zint.Mod(zint.Of(1), m)
	for i := nat.BitLen(e.Mag) - 1; i >= 0; i-- {
		power, _ = zint.Mod(zint.Mul(power, power), m)
		if nat.Bit(e.Mag, i) == 1 {
			power, _ = zint.Mod(zint.Mul(power, rest), m)
		}
	}
	return power, api.OK
}

// Crt: the number that is r1 modulo m1 and r2 modulo m2, and its modulus.
func Crt(r1, m1, r2, m2 api.Int) (r, m api.Int, e api.Errno) {
	if zint.Sign(m1) == 0 || zint.Sign(m2) == 0 {
		return api.Int{}, api.Int{}, api.ErrZero
	}
	g, x := leastMultiple(m1, m2)
	steps, e := zint.Exact(zint.Sub(r2, r1), g)
	if e != api.OK {
		return api.Int{}, api.Int{}, api.ErrNone
	}
	// Modulo m2, m1 taken x times is like g, so r1 and m1 taken steps times x times is like r2. After m2/g times m1 that comes again, so fewer are enough.
	round, _ := zint.Exact(m2, g)
	turns, _ := zint.Mod(zint.Mul(steps, x), round)
	m = zint.Abs(zint.Mul(m1, round))
	r, _ = zint.Mod(zint.MulAdd(turns, m1, r1), m)
	return r, m, api.OK
}

// CrtAll: of a list of residues and moduli.
func CrtAll(rs, ms []api.Int) (r, m api.Int, e api.Errno) {
	if len(rs) != len(ms) {
		return api.Int{}, api.Int{}, api.ErrFit
	}
	for _, modulus := range ms {
		// A 0 behind two remainders that don't go together still comes first of the errors.
		if zint.Sign(modulus) == 0 {
			return api.Int{}, api.Int{}, api.ErrZero
		}
	}
	r, m = zint.Of(0), zint.Of(1)
	for i := range rs {
		r, m, e = Crt(r, m, rs[i], ms[i])
		if e != api.OK {
			break
		}
	}
	return r, m, e
}
