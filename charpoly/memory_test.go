package charpoly_test

import (
	"fmt"
	"slices"
	"testing"

	"trellis/api"
	"trellis/charpoly"
	"trellis/check"
	"trellis/made"
)

// R4: what is handed in stays as it is, spare room included, and an answer has memory of its own, its spare room too.
func TestMemoryOfMatrices(t *testing.T) {
	calls := map[string]func(a, b api.Mat) []api.Int{
		"At with the entries of another": func(a, b api.Mat) []api.Int {
			got, _ := charpoly.At(b.At, a)
			return got.At
		},
		"At with entries of its own": func(a, b api.Mat) []api.Int {
			got, _ := charpoly.At(a.At, a)
			return got.At
		},
	}
	for name, call := range takers() {
		for _, k := range []int{0, 1, 2, 5, -1, 300} {
			calls[fmt.Sprint(name, " at ", k)] = func(a, b api.Mat) []api.Int {
				got, _ := call(a, k)
				return got
			}
		}
		calls[name+" of what is not sound"] = func(a, b api.Mat) []api.Int {
			a.Rows++
			a.Cols++
			got, _ := call(a, 1)
			return got
		}
	}
	check.MatMemory(t, calls, made.Samples())
}

// lists are polynomials, monic or not, with spare zeros or not, in least form or not.
func lists() [][]api.Int {
	long := plus(append(check.Mixed(5, 4), 0)...)
	return [][]api.Int{
		nil, nums(0), check.Zeros(), nums(1), nums(-7), {long}, {plus(1, 0), minus(0)}, nums(3, -2, 1), {num(5), long, plus(1, 0), num(0)}, {long, minus(0, 1), minus(0, 0), long}, {minus(0, 0), plus(0, 1), num(1)}, nums(1, 2, 3, 4, 5, 6, 1), nums(2, 2, 2, 2), {num(0), num(0), num(0), plus(0, 0, 1)},
	}
}

// R4, of calls on one polynomial and, with all pairs of lists, on two: the second one stands in the spare room of the first.
func TestMemoryOfPolynomials(t *testing.T) {
	alone := map[string]func(p []api.Int) []api.Int{
		"Trim": charpoly.Trim,
		"Companion": func(p []api.Int) []api.Int {
			got, _ := charpoly.Companion(p)
			return got.At
		},
		"Value at a number": func(p []api.Int) []api.Int { return []api.Int{charpoly.Value(p, num(-3))} },
		"Value at 0":        func(p []api.Int) []api.Int { return []api.Int{charpoly.Value(p, num(0))} },
		"Value at a coefficient of its own": func(p []api.Int) []api.Int {
			if len(p) == 0 {
				return nil
			}
			return []api.Int{charpoly.Value(p, p[0])}
		},
		"Add to itself": func(p []api.Int) []api.Int { return charpoly.Add(p, p) },
		"Mul by itself": func(p []api.Int) []api.Int { return charpoly.Mul(p, p) },
		"DivMonic by itself": func(p []api.Int) []api.Int {
			quot, rest, _ := charpoly.DivMonic(p, p)
			return slices.Concat(quot, rest)
		},
	}
	check.ListMemory(t, alone, lists())
	for _, q := range lists() {
		var pairs [][]api.Int
		for _, p := range lists() {
			pairs = append(pairs, slices.Concat(p, q))
		}
		ofTwo := map[string]func(whole []api.Int) []api.Int{}
		for name, call := range map[string]func(p, q []api.Int) []api.Int{
			"Add": charpoly.Add,
			"Mul": charpoly.Mul,
			"quotient of DivMonic": func(p, q []api.Int) []api.Int {
				quot, _, _ := charpoly.DivMonic(p, q)
				return quot
			},
			"rest of DivMonic": func(p, q []api.Int) []api.Int {
				_, rest, _ := charpoly.DivMonic(p, q)
				return rest
			},
			"DivMonic": func(p, q []api.Int) []api.Int {
				quot, rest, _ := charpoly.DivMonic(p, q)
				return slices.Concat(quot, rest)
			},
		} {
			ofTwo[name] = func(whole []api.Int) []api.Int {
				from := len(whole) - len(q)
				return call(whole[:from], whole[from:])
			}
			ofTwo[name+", the other way round"] = func(whole []api.Int) []api.Int {
				from := len(whole) - len(q)
				return call(whole[from:], whole[:from])
			}
		}
		check.ListMemory(t, ofTwo, pairs)
	}
}

// R4: x of Value stays as it is, spare room included, and the number that is answered has memory of its own.
func TestMemoryOfValue(t *testing.T) {
	calls := map[string]func(a, b api.Int) api.Int{}
	for _, p := range lists() {
		calls[fmt.Sprint("Value of ", p)] = func(a, b api.Int) api.Int { return charpoly.Value(p, a) }
	}
	calls["Value of the number itself"] = func(a, b api.Int) api.Int { return charpoly.Value([]api.Int{a}, a) }
	calls["Value of x"] = func(a, b api.Int) api.Int { return charpoly.Value(nums(0, 1), a) }
	calls["Value of two numbers"] = func(a, b api.Int) api.Int { return charpoly.Value([]api.Int{a, b}, b) }
	check.IntMemory(t, calls, check.ShortSamples(2))
}

// R4: quotient and rest share no memory, spare room included.
func TestMemoryOfDivisions(t *testing.T) {
	for _, p := range lists() {
		for _, q := range lists() {
			quot, rest, e := charpoly.DivMonic(p, q)
			if e != api.OK {
				continue
			}
			wantQuot, wantRest, _ := charpoly.DivMonic(p, q)
			check.Spoil(rest)
			check.Ints(t, fmt.Sprintf("quotient of %v by %v, the rest being written over", p, q), quot, wantQuot)
			quot, rest, _ = charpoly.DivMonic(p, q)
			check.Spoil(quot)
			check.Ints(t, fmt.Sprintf("rest of %v by %v, the quotient being written over", p, q), rest, wantRest)
		}
	}
}

// R4: coefficients and entries that have the same words.
func TestOverlap(t *testing.T) {
	words := []uint64{1, 0, 2, 3, 0}
	ints := []api.Int{plus(words[:1]...), minus(words[1:3]...), plus(words[2:3]...), minus(words[3:]...)}
	a := api.Mat{Rows: 2, Cols: 2, At: ints}
	// 1 times -3, less 2 times -2^65.
	det := plus(check.Top-2, 3)
	holdChar(t, a, []api.Int{det, num(2), num(1)})
	holdLeast(t, a, []api.Int{det, num(2), num(1)})
	holdTraces(t, a, 1, nums(-2))
	check.Ints(t, "Add", charpoly.Add(ints[:2], ints[2:]), []api.Int{num(3), minus(3, 2)})
	check.Ints(t, "Mul", charpoly.Mul(ints[:2], ints[2:3]), []api.Int{num(2), minus(0, 4)})
	check.Int(t, "Value", charpoly.Value(ints[:3], ints[0]), minus(check.Top-2, 1))
	holdDivision(t, ints[1:3], []api.Int{ints[3], ints[0]}, nums(2), []api.Int{minus(check.Top-5, 1)})
	holdCompanion(t, []api.Int{ints[1], ints[0]}, api.Mat{Rows: 1, Cols: 1, At: []api.Int{plus(0, 2)}})
	holdAt(t, ints[:1], a, unit(2))
	check.Words(t, "what was handed in", words, []uint64{1, 0, 2, 3, 0})
}
