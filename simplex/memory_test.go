package simplex_test

import (
	"fmt"
	"testing"

	"trellis/api"
	"trellis/check"
	"trellis/made"
	"trellis/mat"
	"trellis/simplex"
)

// listSamples are complexes, and lists that are refused for each of the reasons.
func listSamples() [][][]int {
	return append(someComplexes()[:30], cx("0 1 2 3 4 5 6 7"), points(65), cx("2 1, 0 0"), [][]int{{}}, [][]int{{3, 1}, nil}, cx("4 2, 5 3, 1000"), cx("5 3 1, 2 0, -1"), cx("9 5, 7 7, 3 0"))
}

// R4: the facets stay as they are, spare room included, and lists that are answered have memory of their own, their spare room too.
func TestMemoryOfFacets(t *testing.T) {
	calls := map[string]func(facets [][]int) [][]int{}
	for name, call := range takers() {
		calls[name] = func(facets [][]int) [][]int {
			got, _ := call(facets)
			return got
		}
	}
	for name, call := range onDimension() {
		calls[name+" in a dimension below 0"] = func(facets [][]int) [][]int {
			got, _ := call(facets, -1)
			return got
		}
	}
	calls["BettiMod modulo 4"] = func(facets [][]int) [][]int {
		got, _ := modulo(4)(facets, 1)
		return got
	}
	check.ListsMemory(t, calls, listSamples())
}

// R4: facets that are pieces of one list, and one list that stands twice.
func TestOverlap(t *testing.T) {
	whole := []int{2, 0, 1, 3, 5}
	facets := [][]int{whole[:3], whole[1:4], whole[:3], whole[4:], whole[:0:0]}
	holdRefused(t, facets, api.ErrArg)
	holdComplex(t, facets[:4])
	holdBetti(t, facets[:4], 2, 0, 0)
	check.SameLists(t, "what was handed in", [][]int{whole}, cx("2 0 1 3 5"))
}

// integersOf are the calls that answer integers, and what they answer.
func integersOf(facets [][]int) map[string][]api.Int {
	all := map[string][]api.Int{}
	for k := range 4 {
		a, _ := simplex.Boundary(facets, k)
		all[fmt.Sprint("Boundary in dimension ", k)] = a.At
		_, torsion, _ := simplex.Homology(facets, k)
		all[fmt.Sprint("Homology in dimension ", k)] = torsion
	}
	return all
}

// R4: the integers of an answer share no memory with one another, nor with those of another answer, spare room included.
func TestMemoryOfIntegers(t *testing.T) {
	for _, facets := range append(someComplexes(), glued(), beside(cx(plane), cx(plane), cx(plane))) {
		wanted, kept := integersOf(facets), integersOf(facets)
		for name, list := range integersOf(facets) {
			var sizes [][]uint64
			for _, n := range list {
				sizes = append(sizes, n.Mag)
			}
			check.Apart(t, of(name, facets), sizes...)
			check.Spoil(list)
			check.Ints(t, of(name, facets)+", another answer", kept[name], wanted[name])
			check.Ints(t, of(name, facets)+", asked again", integersOf(facets)[name], wanted[name])
		}
	}
}

// R4: the matrices of Pair stay as they are, spare room included, and torsion has memory of its own, its spare room too.
func TestMemoryOfPair(t *testing.T) {
	samples := made.Samples()
	for _, text := range []string{"2 -2", "1; 1", "0x2", "2x0", "4 0 0; 0 6 0", "0; 0; 0", "0 0; 0 0", "6", "12; 18", "0 0 0; 0 0 0; 0 0 0"} {
		samples = append(samples, mx(text), made.Disguised(mx(text)))
	}
	torsionOf := func(a, b api.Mat) []api.Int {
		_, torsion, _ := simplex.Pair(a, b)
		return torsion
	}
	calls := map[string]func(a, b api.Mat) []api.Int{
		"Pair": torsionOf,
		"Pair before zeros": func(a, b api.Mat) []api.Int {
			zero, _ := mat.Zero(a.Cols, 2)
			return torsionOf(a, zero)
		},
		"Pair of one twice": func(a, b api.Mat) []api.Int { return torsionOf(a, a) },
		"Pair of what is not sound": func(a, b api.Mat) []api.Int {
			a.Rows++
			return torsionOf(a, b)
		},
	}
	check.MatMemory(t, calls, samples)
}

// R4: entries of two matrices that have the same words.
func TestOverlapOfPair(t *testing.T) {
	words := []uint64{6, 0, 6, 9, 0}
	a := api.Mat{Rows: 1, Cols: 2, At: []api.Int{plus(words[:2]...), minus(words[2:3]...)}}
	b := api.Mat{Rows: 2, Cols: 1, At: []api.Int{plus(words[3:]...), plus(words[3:4]...)}}
	holdGroup(t, a, b, 0, nums(6))
	holdGroup(t, a, api.Mat{Rows: 2, Cols: 0}, 1, nums(6))
	holdNoPair(t, a, api.Mat{Rows: 2, Cols: 1, At: a.At}, api.ErrChain)
	check.Words(t, "what was handed in", words, []uint64{6, 0, 6, 9, 0})
}
