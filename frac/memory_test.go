package frac_test

import (
	"slices"
	"testing"

	"trellis/api"
	"trellis/check"
	"trellis/frac"
)

// parts are the two integers of an answer.
func parts(a api.Frac, e api.Errno) []api.Int {
	return []api.Int{a.Num, a.Den}
}

// alone is an answer of one integer.
func alone(a api.Int, e api.Errno) []api.Int {
	return []api.Int{a}
}

// ofTwo is a call at the first two integers of a list.
func ofTwo(call func(a, b api.Int) []api.Int) func(list []api.Int) []api.Int {
	return func(list []api.Int) []api.Int { return call(list[0], list[1]) }
}

// ofOne is a call at the fraction that the first two integers of a list are.
func ofOne(call func(a api.Frac) []api.Int) func(list []api.Int) []api.Int {
	return func(list []api.Int) []api.Int { return call(of(list[0], list[1])) }
}

// ofBoth is a call at the two fractions that the integers of a list are.
func ofBoth(call func(a, b api.Frac) []api.Int) func(list []api.Int) []api.Int {
	return func(list []api.Int) []api.Int { return call(of(list[0], list[1]), of(list[2], list[3])) }
}

// listsOf are all lists of n out of some integers: 0 and 1, and such as are in no least form.
func listsOf(n int) [][]api.Int {
	if n == 0 {
		return [][]api.Int{nil}
	}
	var all [][]api.Int
	for _, a := range []api.Int{num(1), minus(0, 0), plus(6, 0), minus(4), minus(0, 1), plus(append(check.Mixed(5, 4), 0)...)} {
		for _, rest := range listsOf(n - 1) {
			all = append(all, append([]api.Int{a}, rest...))
		}
	}
	return all
}

// R4: what is handed in stays as it is, spare room included, and an answer has memory of its own, its spare room too. What answers no integer is held by a number of its answer.
func TestMemory(t *testing.T) {
	calls := map[string]func(list []api.Int) []api.Int{
		"Of":       ofTwo(func(a, b api.Int) []api.Int { return parts(frac.Of(a, b)) }),
		"Of(a, 1)": ofTwo(func(a, b api.Int) []api.Int { return parts(frac.Of(a, plus(1))) }),
		"Of(1, a)": ofTwo(func(a, b api.Int) []api.Int { return parts(frac.Of(plus(1), a)) }),
		"Of(a, a)": ofTwo(func(a, b api.Int) []api.Int { return parts(frac.Of(a, a)) }),
		"Recover":  ofTwo(func(a, b api.Int) []api.Int { return parts(frac.Recover(a, b)) }),
		// So much that a is its own fraction.
		"Recover(a, much)": ofTwo(func(a, b api.Int) []api.Int { return parts(frac.Recover(a, plus(check.Repeat(top, 20)...))) }),
		"Floor":            ofOne(func(a api.Frac) []api.Int { return alone(frac.Floor(a)) }),
		"Nearest":          ofOne(func(a api.Frac) []api.Int { return alone(frac.Nearest(a)) }),
		"Chain": ofOne(func(a api.Frac) []api.Int {
			list, _ := frac.Chain(a)
			return list
		}),
		"Text": ofOne(func(a api.Frac) []api.Int {
			s, _ := frac.Text(a)
			return nums(len(s))
		}),
		"Read of Text": ofOne(func(a api.Frac) []api.Int {
			s, _ := frac.Text(a)
			return parts(frac.Read(s))
		}),
	}
	for name, call := range reckonings() {
		calls[name+" with 1"] = ofOne(func(a api.Frac) []api.Int { return parts(call(a, over(1, 1))) })
		calls[name+" with itself"] = ofOne(func(a api.Frac) []api.Int { return parts(call(a, a)) })
	}
	check.ListMemory(t, calls, listsOf(2))
}

// R4 for the calls that take two fractions.
func TestMemoryOfTwo(t *testing.T) {
	calls := map[string]func(list []api.Int) []api.Int{
		"Cmp": ofBoth(func(a, b api.Frac) []api.Int {
			order, _ := frac.Cmp(a, b)
			return nums(order)
		}),
	}
	for name, call := range reckonings() {
		calls[name] = ofBoth(func(a, b api.Frac) []api.Int { return parts(call(a, b)) })
	}
	check.ListMemory(t, calls, listsOf(4))
}

// R4 for the lists that Unchain takes.
func TestUnchainMemory(t *testing.T) {
	calls := map[string]func(list []api.Int) []api.Int{"Unchain": func(list []api.Int) []api.Int { return parts(frac.Unchain(list)) }}
	check.ListMemory(t, calls, [][]api.Int{
		nil, nums(0), nums(1), nums(-9), nums(5, 0), nums(0, 1), nums(2, 3, 1, 4), {minus(0)}, {plus(9, 0)}, {minus(9, 0), plus(1, 0)}, {num(0), plus(7, 0)},
		{plus(top, top, 0), plus(0, 1), plus(check.Mixed(6, 2)...), plus(1, 0, 0)}, {num(3), plus(0, 1), minus(0)},
	})
}

// R4 where the numbers that are handed in are pieces of one list.
func TestOverlap(t *testing.T) {
	whole := list{12, 0, 18, 0, 9}
	start := slices.Clone(whole)
	a, b := of(minus(whole[:2]...), plus(whole[2:4]...)), of(plus(whole[2:4]...), plus(whole[4:]...))
	got, e := frac.Add(a, b)
	hold(t, "Add of pieces", got, e, over(4, 3))
	got, e = frac.Div(b, a)
	hold(t, "Div of pieces", got, e, over(-3, 1))
	got, e = frac.Unchain([]api.Int{a.Num, a.Den, b.Den})
	hold(t, "Unchain of pieces", got, e, over(-12*163+9, 163))
	got, e = frac.Recover(plus(whole[4:]...), plus(whole[2:4]...))
	holdRefusal(t, "Recover of pieces", got, e, api.ErrNone)
	check.Words(t, "what was handed in", whole, start)
}
