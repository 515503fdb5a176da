package simplex_test

import (
	"fmt"
	"maps"
	"math"
	"slices"
	"testing"

	"trellis/api"
	"trellis/check"
	"trellis/made"
	"trellis/mat"
	"trellis/simplex"
)

// The calls on a complex by their kinds, what they answer told as lists of numbers; nothing is told of zero values.
type (
	taker    func(facets [][]int) ([][]int, api.Errno)
	dimTaker func(facets [][]int, k int) ([][]int, api.Errno)
)

// onFacets are the calls on facets alone.
func onFacets() map[string]taker {
	return map[string]taker{
		"Faces": simplex.Faces,
		"Betti": func(facets [][]int) ([][]int, api.Errno) {
			betti, e := simplex.Betti(facets)
			if len(betti) == 0 {
				return nil, e
			}
			return [][]int{betti}, e
		},
		"Euler": func(facets [][]int) ([][]int, api.Errno) {
			euler, e := simplex.Euler(facets)
			return toldNumber(euler), e
		},
		"Parts": simplex.Parts,
		"Cone":  simplex.Cone,
	}
}

// onDimension are the calls on facets and a dimension, with primes that are fit.
func onDimension() map[string]dimTaker {
	all := map[string]dimTaker{
		"Boundary": func(facets [][]int, k int) ([][]int, api.Errno) {
			a, e := simplex.Boundary(facets, k)
			return append(toldInts(a.At), slices.Concat(toldNumber(a.Rows), toldNumber(a.Cols))...), e
		},
		"Homology": func(facets [][]int, k int) ([][]int, api.Errno) {
			rank, torsion, e := simplex.Homology(facets, k)
			return append(toldInts(torsion), toldNumber(rank)...), e
		},
	}
	for _, p := range somePrimes() {
		all[fmt.Sprint("BettiMod modulo ", p)] = modulo(p)
	}
	return all
}

// modulo is BettiMod with any number as a prime.
func modulo(p uint64) dimTaker {
	return func(facets [][]int, k int) ([][]int, api.Errno) {
		got, e := simplex.BettiMod(facets, k, p)
		return toldNumber(got), e
	}
}

// toldNumber is a number as lists, and nothing for 0.
func toldNumber(n int) [][]int {
	if n == 0 {
		return nil
	}
	return [][]int{{n}}
}

// toldInts are integers as lists, the number -1 in those below 0.
func toldInts(list []api.Int) [][]int {
	var all [][]int
	for _, n := range list {
		one := []int{}
		if n.Neg {
			one = append(one, -1)
		}
		for _, w := range n.Mag {
			one = append(one, int(w))
		}
		all = append(all, one)
	}
	return all
}

// takers are all calls on facets, with dimensions that are fit.
func takers() map[string]taker {
	all := maps.Clone(onFacets())
	for name, call := range onDimension() {
		for _, k := range []int{0, 1, 2, 3, math.MaxInt} {
			all[fmt.Sprint(name, " in dimension ", k)] = func(facets [][]int) ([][]int, api.Errno) { return call(facets, k) }
		}
	}
	return all
}

// holdRefused asks for an error of all calls, with nothing beside it.
func holdRefused(t *testing.T, facets [][]int, want api.Errno) {
	t.Helper()
	for name, call := range takers() {
		got, e := call(facets)
		holdNoLists(t, of(name, facets), got, e, want)
	}
}

// holdNoLists asks for an error with nothing beside it.
func holdNoLists(t *testing.T, call string, got [][]int, e, want api.Errno) {
	t.Helper()
	check.Same(t, call, e, want)
	check.SameLists(t, call+", beside the error", got, nil)
}

// holdNoPair asks for an error of Pair, with nothing beside it.
func holdNoPair(t *testing.T, a, b api.Mat, want api.Errno) {
	t.Helper()
	rank, torsion, e := simplex.Pair(a, b)
	check.Same(t, ofPair(a, b), e, want)
	check.Same(t, ofPair(a, b)+", rank beside the error", rank, 0)
	check.Ints(t, ofPair(a, b)+", torsion beside the error", torsion, nil)
}

// firstNumbers are the numbers from 0 on.
func firstNumbers(n int) []int { return made.First(n) }

// wrongFacets are lists that are no facets, for each of the reasons.
func wrongFacets() [][]int {
	twiceAtTheEnds := append(firstNumbers(1000), 0)
	return [][]int{
		nil, {}, {-1}, {math.MinInt}, {1000}, {1001}, {math.MaxInt}, {1 << 32}, {0, -1}, {3, 2, 1000}, {-5, 5}, {0, 1, 2, 3, 4, 5, 6, 7, 8, -1},
		{0, 0}, {999, 999}, {5, 3, 5}, {1, 2, 2}, {1, 1, 2}, {2, 4, 6, 8, 10, 12, 14, 16, 2}, {7, 7, 7}, twiceAtTheEnds, make([]int, 5000), firstNumbers(1001),
	}
}

// P24.1 to P24.7: wherever it stands, a list that is no facet is refused, ahead of faces that are too many; a fit facet beside it does not help.
func TestWrongFacets(t *testing.T) {
	for _, wrong := range wrongFacets() {
		for _, beside := range [][][]int{nil, cx("0"), cx("0 1 2, 5 3"), cx("0 1 2 3 4 5 6 7"), {firstNumbers(65)}, cx(plane)} {
			holdRefused(t, append(slices.Clone(beside), wrong), api.ErrArg)
			holdRefused(t, slices.Concat([][]int{wrong}, beside), api.ErrArg)
			holdRefused(t, slices.Concat(beside, [][]int{wrong}, beside), api.ErrArg)
		}
	}
}

// P24.2 to P24.4: a dimension below 0 is refused, ahead of faces that are too many and of what is no prime, beside facets that are wrong too.
func TestDimensionsBelow0(t *testing.T) {
	calls := onDimension()
	for _, p := range []uint64{0, 1, 4, 1 << 31, math.MaxUint64} {
		calls[fmt.Sprint("BettiMod modulo ", p)] = modulo(p)
	}
	for _, facets := range [][][]int{nil, cx("0"), cx(plane), cx("0 1 2 3 4 5 6 7"), {firstNumbers(100)}, {nil}, cx("1 1"), cx("1000")} {
		for _, k := range []int{-1, -2, -64, -1 << 32, math.MinInt + 1, math.MinInt} {
			for name, call := range calls {
				got, e := call(facets, k)
				holdNoLists(t, at(name, facets, k), got, e, api.ErrArg)
			}
		}
	}
}

// P24.4: what is no prime below PrimeTop is refused, ahead of faces that are too many and behind facets that are wrong, in dimensions without faces too.
func TestNoPrimes(t *testing.T) {
	for _, p := range []uint64{0, 1, 4, 6, 9, 15, 25, 121, 2147483641, 2147483646, 46337 * 46337, 1 << 31, 1<<31 + 11, 1<<32 - 5, 1<<32 + 2, 1<<61 - 1, math.MaxUint64 - 58, math.MaxUint64} {
		for _, k := range []int{0, 1, 2, 64, math.MaxInt} {
			for _, facets := range [][][]int{nil, cx("0"), cx(plane), cx("0 1 2 3 4 5 6 7"), {firstNumbers(1000)}, points(65)} {
				got, e := modulo(p)(facets, k)
				holdNoLists(t, fmt.Sprint(at("BettiMod", facets, k), " modulo ", p), got, e, api.ErrPrime)
			}
			for _, wrong := range wrongFacets() {
				got, e := modulo(p)([][]int{wrong}, k)
				holdNoLists(t, fmt.Sprint(at("BettiMod", [][]int{wrong}, k), " modulo ", p), got, e, api.ErrArg)
			}
		}
	}
}

// points are so many of them, without edges.
func points(n int) [][]int {
	var all [][]int
	for v := range n {
		all = append(all, []int{v})
	}
	return all
}

// ring is a circle of n vertices and as many edges.
func ring(n int) [][]int {
	var all [][]int
	for v := range n {
		all = append(all, []int{v, (v + 1) % n})
	}
	return all
}

// sets are the first count of the sets of so many of n vertices.
func sets(n, size, count int) [][]int {
	return made.Choices(firstNumbers(n), size)[:count]
}

// P24.1: MaxDim faces of one dimension are none too many, one more is; how many the others are does not matter.
func TestTooManyFaces(t *testing.T) {
	sphere := sets(7, 6, 7)
	for _, facets := range [][][]int{
		points(64), ring(64), sets(12, 2, 64), sets(9, 3, 64), sets(8, 4, 64), sets(7, 7, 1), sphere, cx("0 1 2 3 4 5 6, 0 1 2 3 4 5 7"), append(points(64), []int{5, 63, 20}), append(sets(9, 3, 64), []int{3, 999}), slices.Repeat(cx("0 6 2 3 4 5 1"), 1000), slices.Repeat(points(64), 3),
	} {
		check.Same(t, of("are there too many faces", facets), tooMany(facets), false)
		holdFaces(t, facets)
		holdEuler(t, facets, eulerByWords(facets))
		holdParts(t, facets, partsByWords(facets))
		holdCone(t, facets)
	}
	for _, facets := range [][][]int{
		points(65), ring(65), append(ring(64), []int{64}), append(ring(64), []int{0, 2}), sets(12, 2, 65), sets(12, 2, 66), sets(9, 3, 65), sets(8, 4, 65), sets(8, 8, 1), sets(9, 9, 1), cx("0 1 2 3 4 5 6, 0 1 2 3 4 7 8"), append(points(64), []int{999}), append(points(63), []int{999, 998}), cx("7 6 5 4 3 2 1 0"), append(cx("3"), firstNumbers(8)),
		{firstNumbers(64)}, {firstNumbers(65)}, {firstNumbers(1000)}, {firstNumbers(1000), firstNumbers(1000)}, points(1000), sets(13, 7, 1716),
	} {
		holdRefused(t, facets, api.ErrLarge)
	}
}

// eulerByWords counts the faces.
func eulerByWords(facets [][]int) int {
	euler := 0
	for _, f := range facesByWords(facets) {
		euler += len(f)%2*2 - 1
	}
	return euler
}

// P24.3: a matrix that is not sound is told first, in either place, whatever else is wrong.
func TestUnsound(t *testing.T) {
	for _, a := range check.Unsound() {
		for _, b := range append(made.Samples(), check.Unsound()...) {
			holdNoPair(t, a, b, api.ErrMat)
			holdNoPair(t, b, a, api.ErrMat)
		}
	}
}

// P24.3: matrices that do not go together are refused, ahead of asking if they chain.
func TestMatricesThatDoNotFit(t *testing.T) {
	samples := append(made.Samples(), mx("0x1"), mx("1x0"), mx("0x64"), mx("64x0"), mx("0 0 0"), mx("0; 0"))
	for _, a := range samples {
		for _, b := range samples {
			if a.Cols != b.Rows {
				holdNoPair(t, a, b, api.ErrFit)
			}
		}
	}
}

// P24.3: a product that is 0 but at one place does not chain, wherever that is and however large what stands there.
func TestMatricesThatDoNotChain(t *testing.T) {
	for _, text := range [][2]string{
		{"1", "1"}, {"-1", "5"}, {"1 1", "1; 0"}, {"1 0; 0 1", "0 0; 0 1"}, {"0 1; 0 0", "0 0; 1 0"}, {"2 -2", "1; 2"}, {"1 1; 1 -1", "1 1; -1 -1"}, {"2 -2; 0 1", "1; 1"}, {"0 0; 0 0; 0 3", "0 0; 0 7"}, {"3 0; 0 0", "0 2; 0 0"},
	} {
		for _, a := range []api.Mat{mx(text[0]), made.Disguised(mx(text[0]))} {
			holdNoPair(t, a, mx(text[1]), api.ErrChain)
			holdNoPair(t, a, made.Disguised(mx(text[1])), api.ErrChain)
		}
	}
	for i := range 3 {
		for j := range 4 {
			for _, n := range []api.Int{num(1), num(-1), plus(0, 1), minus(0, 0, 0, 1), plus(check.High, 0)} {
				unit, _ := mat.Unit(4)
				a, _ := mat.Zero(3, 4)
				a.At[i*4+j] = n
				holdNoPair(t, a, unit, api.ErrChain)
				holdNoPair(t, unit, made.Turned(a), api.ErrChain)
				// The product is a multiple of 2^64.
				big, _ := mat.Scale(plus(0, 1), unit)
				holdNoPair(t, a, big, api.ErrChain)
			}
		}
	}
}

// R1: all calls answer at every two sound matrices, in one way or another.
func TestSound(t *testing.T) {
	samples := append(made.Samples(), mx("0x1"), mx("1x0"), mx("0x64"), mx("64x0"), mx("3x0"), mx("0 0 0"), mx("0; 0"), mx("0 0; 0 0; 0 0"))
	chains := 0
	for _, a := range samples {
		for _, b := range samples {
			if a.Cols != b.Rows {
				continue
			}
			zero, _ := mat.Zero(a.Rows, b.Cols)
			if equal, _ := mat.Equal(product(a, b), zero); !equal {
				holdNoPair(t, a, b, api.ErrChain)
				continue
			}
			holdPair(t, a, b)
			chains++
		}
	}
	check.Same(t, "do some chain", chains > 50, true)
}

// R1 and R5: lists may be nil or not, and each time the answers are the same.
func TestNothing(t *testing.T) {
	for _, facets := range [][][]int{nil, {}} {
		for range 2 {
			holdComplex(t, facets)
			check.SameLists(t, "Cone of none", holdCone(t, facets), cx("0"))
		}
	}
	for _, list := range [][]api.Int{nil, {}} {
		holdGroup(t, api.Mat{At: list}, api.Mat{At: list}, 0, nil)
		holdGroup(t, api.Mat{Cols: 3, At: list}, api.Mat{Rows: 3, At: list}, 3, nil)
	}
}
