package approx

import (
	"cmp"
	"math"

	"trellis/api"
	"trellis/nat"
	"trellis/zint"
)

// Whole: f, rounded toward zero.
func Whole(f float64) (api.Int, api.Errno) {
	if !isFinite(f) {
		return api.Int{}, api.ErrArg
	}
	return whole(f, 0), api.OK
}

// Split: the odd number m and the exponent n with f = m times 2^n.
func Split(f float64) (m api.Int, n int, e api.Errno) {
	if !isFinite(f) {
		return api.Int{}, 0, api.ErrArg
	}
	if f == 0 {
		return api.Int{}, 0, api.OK
	}
	count, unit := parts(f)
	n = unit + nat.Twos(count)
	return whole(f, -n), n, api.OK
}

// Cmp: a held against f: -1, 0 or 1.
func Cmp(a api.Int, f float64) (int, api.Errno) {
	if math.IsNaN(f) {
		return 0, api.ErrArg
	}
	if math.IsInf(f, 0) {
		// All integers lie on one side of it, as 0 does.
		return cmp.Compare(0, f), api.OK
	}
	if c := zint.Cmp(a, whole(f, 0)); c != 0 {
		return c, api.OK
	}
	return cmp.Compare(math.Trunc(f), f), api.OK
}

// Total: the float64 nearest to the exact sum of all.
func Total(list ...float64) (float64, api.Errno) {
	// In the shortest steps that there are, each finite float64 is a whole number.
	var steps api.Int
	for _, f := range list {
		if !isFinite(f) {
			return 0, api.ErrArg
		}
		steps = zint.Add(steps, whole(f, -leastUnit))
	}
	return nearest(steps.Neg, steps.Mag, leastUnit), api.OK
}

func isFinite(f float64) bool {
	return !math.IsNaN(f) && !math.IsInf(f, 0)
}

// parts are the count and the unit of a finite float64, whatever its sign: its size is count times 2^unit.
func parts(f float64) (count []uint64, unit int) {
	bits := math.Float64bits(f) &^ signBit
	// The bits ahead of the count are how many units there are below this one, and 1 more where the count has its highest digit.
	below := max(bits>>(countBits-1), 1) - 1
	return []uint64{bits - below<<(countBits-1)}, leastUnit + int(below)
}

// whole is f, which is finite, times 2^n, rounded toward zero.
func whole(f float64, n int) api.Int {
	count, unit := parts(f)
	return zint.Least(api.Int{Neg: f < 0, Mag: moved(count, unit+n)})
}
