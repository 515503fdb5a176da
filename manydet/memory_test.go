package manydet_test

import (
	"slices"
	"testing"

	"trellis/api"
	"trellis/check"
	"trellis/made"
	"trellis/manydet"
)

// R4: what is handed in stays as it is, spare room included, and an answer has memory of its own, its spare room too.
func TestMemory(t *testing.T) {
	calls := map[string]func(a, b api.Mat) []api.Int{
		"Bound": func(a, b api.Mat) []api.Int {
			bound, _ := manydet.Bound(a)
			return []api.Int{bound}
		},
		"Cramer with the entries of another": func(a, b api.Mat) []api.Int {
			x, d, _ := manydet.Cramer(a, b.At, 2)
			return append(x, d)
		},
		"Cramer with entries of its own": func(a, b api.Mat) []api.Int {
			x, d, _ := manydet.Cramer(a, a.At[:min(a.Cols, len(a.At))], 2)
			return append(x, d)
		},
	}
	for name, call := range takers() {
		calls[name] = func(a, b api.Mat) []api.Int {
			got, _ := call(a, 3)
			return got
		}
		calls[name+" with no workers"] = func(a, b api.Mat) []api.Int {
			got, _ := call(a, 0)
			return got
		}
		calls[name+" of what is not sound"] = func(a, b api.Mat) []api.Int {
			a.Rows++
			a.Cols++
			got, _ := call(a, 1)
			return got
		}
	}
	check.MatMemory(t, calls, made.Samples())
}

// R4: the list of primes stays as it is, spare room included, and the list that is answered has memory of its own.
func TestMemoryOfPrimes(t *testing.T) {
	calls := map[string]func(a, b []uint64) []uint64{
		"Primes": func(a, b []uint64) []uint64 {
			list, _ := manydet.Primes(len(a) * len(b))
			return list
		},
	}
	for _, m := range made.Samples() {
		for _, w := range []int{0, 1, 5} {
			calls[of("Residues", m, w)] = func(a, b []uint64) []uint64 {
				list, _ := manydet.Residues(m, a, w)
				return list
			}
		}
	}
	check.Memory(t, calls, [][]uint64{nil, {}, {5}, {2, 3, 2}, {4}, {7, 1, 7}, {101, 3, 2, 46337, 3}})
}

// R4: the number of Cramer and those of x beside it have memory of their own, where all are the same and where they are b's own.
func TestMemoryOfCramer(t *testing.T) {
	for _, c := range []struct {
		a api.Mat
		b []api.Int
	}{
		{mx("1"), nums(1)}, {mx("-5"), nums(-5)}, {mx("3 0; 0 -3"), nums(3, 3)}, {mx("0 1; 1 0"), nums(1, 1)}, {mx("1"), check.Roomy([]api.Int{minus(5, 6)})}, {api.Mat{Rows: 1, Cols: 1, At: check.Roomy([]api.Int{minus(5, 6)})}, nums(1)},
	} {
		x, d, e := manydet.Cramer(c.a, c.b, 2)
		check.Same(t, of("Cramer", c.a), e, api.OK)
		lists := [][]uint64{d.Mag}
		for _, n := range slices.Concat(x, c.a.At, c.b) {
			lists = append(lists, n.Mag)
		}
		check.Apart(t, of("Cramer", c.a), lists...)
	}
}

// R4: entries that have the same words.
func TestOverlap(t *testing.T) {
	words := []uint64{1, 0, 2, 3, 0}
	ints := []api.Int{plus(words[:1]...), minus(words[1:3]...), plus(words[2:3]...), minus(words[3:]...)}
	a := api.Mat{Rows: 2, Cols: 2, At: ints}
	// 1 times -3, less 2 times -2^65.
	det := plus(check.Top-2, 3)
	holdDet(t, a, det, few()...)
	holdRank(t, a, 2, few()...)
	holdBound(t, a, plus(5, 10))
	// The row of a that b is.
	holdCramer(t, a, ints[:2], []api.Int{det, num(0)}, det, few()...)
	check.Words(t, "what was handed in", words, []uint64{1, 0, 2, 3, 0})
}
