package minors_test

import (
	"fmt"
	"slices"
	"testing"

	"trellis/api"
	"trellis/check"
	"trellis/made"
	"trellis/minors"
)

// R4: what is handed in stays as it is, spare room included, and an answer has memory of its own, its spare room too.
func TestMemory(t *testing.T) {
	calls := map[string]func(a, b api.Mat) []api.Int{}
	for name, call := range takers() {
		for k := range 5 {
			calls[fmt.Sprint(name, " at ", k)] = func(a, b api.Mat) []api.Int {
				got, _ := call(a, k)
				return got.At
			}
		}
		calls[name+" of what is not sound"] = func(a, b api.Mat) []api.Int {
			a.Rows++
			a.Cols++
			got, _ := call(a, 1)
			return got.At
		}
	}
	calls["Minor at two places"] = func(a, b api.Mat) []api.Int {
		got, _ := minors.Minor(a, []int{1, 0}, []int{0, 1})
		return []api.Int{got}
	}
	check.MatMemory(t, calls, made.Samples())
}

// roomyPlaces is a copy of a list with spare room behind it.
func roomyPlaces(list []int) []int {
	return append(slices.Clone(list), 1, 2, 3)[:len(list)]
}

// R4: Minor leaves the lists of places as they are, spare room included, fit or not.
func TestMemoryOfPlaces(t *testing.T) {
	for _, list := range [][]int{nil, {0}, {1, 0}, {2, 2, 1}, {0, 9}, {-1}, with(65), with(64, -1)} {
		for _, other := range [][]int{nil, {2}, {1, 2}, {2, 1, 0}, {-5, 0}, {7}, with(65), with(64, 70)} {
			for _, a := range made.Samples() {
				rows, cols := roomyPlaces(list), roomyPlaces(other)
				minors.Minor(a, rows, cols)
				n, m := len(list), len(other)
				holdPlaces(t, of("rows after Minor", a), rows[:n+3], append(slices.Clone(list), 1, 2, 3))
				holdPlaces(t, of("columns after Minor", a), cols[:m+3], append(slices.Clone(other), 1, 2, 3))
			}
		}
	}
}

// R4: one list may be handed in as rows and as columns.
func TestSameList(t *testing.T) {
	places := []int{2, 0}
	holdMinor(t, mx("1 2 3; 4 5 6; 7 8 9"), places, places, num(9-21))
	holdPlaces(t, "what was handed in", places, []int{2, 0})
}

// R4: the number of Inverse and the entries beside it have memory of their own; so have all entries where they are all the same number.
func TestMemoryOfInverse(t *testing.T) {
	for _, a := range []api.Mat{mx("1"), mx("-5"), mx("3 0; 0 -3"), mx("0 1; 1 0"), ones(5, 5), {Rows: 1, Cols: 1, At: check.Roomy([]api.Int{minus(5, 6)})}} {
		n, d, e := minors.Inverse(a)
		check.Same(t, of("Inverse", a), e, api.OK)
		lists := [][]uint64{d.Mag}
		for _, entry := range append(n.At, a.At...) {
			lists = append(lists, entry.Mag)
		}
		check.Apart(t, of("Inverse", a), lists...)
	}
}

// R4: entries that have the same words.
func TestOverlap(t *testing.T) {
	words := []uint64{1, 0, 2, 3, 0}
	ints := []api.Int{plus(words[:1]...), minus(words[1:3]...), plus(words[2:3]...), minus(words[3:]...)}
	a := api.Mat{Rows: 2, Cols: 2, At: ints}
	// 1 times -3, less 2 times -2^65.
	det := plus(check.Top-2, 3)
	holdMinor(t, a, first(2), first(2), det)
	holdGcd(t, a, 2, det)
	holdCompound(t, a, 2, api.Mat{Rows: 1, Cols: 1, At: []api.Int{det}})
	holdAdjugate(t, a, api.Mat{Rows: 2, Cols: 2, At: []api.Int{num(-3), plus(0, 2), num(-2), num(1)}})
	holdInverse(t, a, api.Mat{Rows: 2, Cols: 2, At: []api.Int{num(-3), plus(0, 2), num(-2), num(1)}}, det)
	check.Words(t, "what was handed in", words, []uint64{1, 0, 2, 3, 0})
}
