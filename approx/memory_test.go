package approx_test

import (
	"math"
	"slices"
	"testing"

	"trellis/api"
	"trellis/approx"
	"trellis/check"
)

// bits is a float64 as an integer that no other one is.
func bits(f float64) api.Int {
	return plus(math.Float64bits(f))
}

// R4: what is handed in stays as it is, spare room included, and an integer that is answered has memory of its own, its spare room too.
// What answers no integer is held by the bits of its answer.
func TestMemory(t *testing.T) {
	split := func(f float64) api.Int {
		m, _, _ := approx.Split(f)
		return m
	}
	wholeOf := func(f float64) api.Int {
		a, _ := approx.Whole(f)
		return a
	}
	calls := map[string]func(a, b api.Int) api.Int{
		"Near(a)": func(a, b api.Int) api.Int { return bits(approx.Near(a)) },
		"Ratio(a, b)": func(a, b api.Int) api.Int {
			f, _ := approx.Ratio(a, b)
			return bits(f)
		},
		"Ratio(a, a)": func(a, b api.Int) api.Int {
			f, _ := approx.Ratio(a, a)
			return bits(f)
		},
		"Whole(Near(a))":     func(a, b api.Int) api.Int { return wholeOf(approx.Near(a)) },
		"Whole(0.5)":         func(a, b api.Int) api.Int { return wholeOf(0.5) },
		"Whole(an infinity)": func(a, b api.Int) api.Int { return wholeOf(math.Inf(1)) },
		"Split(Near(a)), m":  func(a, b api.Int) api.Int { return split(approx.Near(a)) },
		"Split(0), m":        func(a, b api.Int) api.Int { return split(0) },
		"Split(0.75), m":     func(a, b api.Int) api.Int { return split(0.75) },
		"Cmp(a, Near(b))": func(a, b api.Int) api.Int {
			c, _ := approx.Cmp(a, approx.Near(b))
			return num(c)
		},
		"Sci(a, 3)": func(a, b api.Int) api.Int {
			s, _ := approx.Sci(a, 3)
			return plus(uint64(len(s)))
		},
	}
	check.IntMemory(t, calls, []list{nil, {0, 0}, {1}, {6}, {2, 0}, {top, 0, 0}, {top, top}, {0, 0, 1}, append(check.Mixed(7, 5), 0, 0), check.Mixed(40, 6)})
}

// R4: the list of Total stays as it is, spare room included.
func TestTotalMemory(t *testing.T) {
	list := []float64{1e16, math.Copysign(0, -1), 1, -1e16, 0.3, 7, 8, 9}
	before := slices.Clone(list)
	first, _ := approx.Total(list[:5]...)
	float(t, "Total of a part of a list", first, 1.3)
	for i, f := range list {
		float(t, "what was handed in to Total", f, before[i])
	}
	_, e := approx.Total(append(list[:5:5], math.NaN())...)
	check.Same(t, "Total with a not-a-number", e, api.ErrArg)
	for i, f := range list {
		float(t, "what was handed in to Total", f, before[i])
	}
}
