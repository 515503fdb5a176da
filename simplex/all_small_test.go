package simplex_test

import (
	"testing"

	"trellis/api"
	"trellis/check"
	"trellis/made"
	"trellis/mat"
)

// P24.1 to P24.7 at all lists of facets out of a few vertices, or every so-manieth of them, facets that are faces of others among them.
func TestAllSmall(t *testing.T) {
	for _, c := range []struct {
		vertices []int
		step     int
	}{{[]int{0}, 1}, {[]int{999, 0}, 1}, {[]int{2, 0, 1}, 1}, {[]int{3, 0, 2, 999}, 29}, {[]int{4, 1, 0, 3, 2}, 9000011}} {
		all := allSets(c.vertices)
		for number := 0; number < 1<<len(all); number += c.step {
			holdComplex(t, chosen(all, number))
		}
	}
}

// allSets are all sets of vertices that have one, each in the order of the list.
func allSets(vertices []int) [][]int {
	var all [][]int
	for size := len(vertices); size > 0; size-- {
		all = append(all, made.Choices(vertices, size)...)
	}
	return all
}

// chosen are those of the lists at whose places a number has the binary digit 1.
func chosen(all [][]int, number int) [][]int {
	var some [][]int
	for i, list := range all {
		if number>>i&1 == 1 {
			some = append(some, list)
		}
	}
	return some
}

// P24.3 at all little matrices that chain, or every so-manieth.
func TestAllSmallPairs(t *testing.T) {
	for _, c := range []struct {
		rows, middle, cols, stepA, stepB int
		entries                          []int
	}{
		{1, 1, 1, 1, 1, []int{-3, -1, 0, 1, 2, 6}}, {2, 1, 1, 1, 1, []int{-4, 0, 3, 6}}, {1, 1, 2, 1, 1, []int{-2, 0, 1}}, {1, 2, 1, 1, 1, []int{-4, -1, 0, 2, 3}}, {2, 2, 1, 3, 1, []int{-2, 0, 1, 4}}, {1, 2, 2, 1, 3, []int{-3, 0, 1, 2}}, {2, 2, 2, 5, 7, []int{-2, 0, 1, 3}}, {1, 3, 1, 1, 1, []int{-2, 0, 1, 4}}, {2, 3, 1, 7, 3, []int{-2, 0, 1}}, {2, 3, 2, 7, 5, []int{-1, 0, 2}}, {1, 4, 2, 3, 61, []int{-2, 0, 1}},
	} {
		chains := 0
		for a := range made.SomeSmall(c.rows, c.middle, c.stepA, c.entries) {
			for b := range made.SomeSmall(c.middle, c.cols, c.stepB, c.entries) {
				if holdSmallPair(t, a, b, c.cols) {
					chains++
				}
			}
		}
		check.Same(t, "do some chain", chains > 3, true)
	}
}

// holdSmallPair asks for what two matrices, each with a row, have between them, by their minors; it says if they chain.
func holdSmallPair(t *testing.T, a, b made.Small, cols int) bool {
	t.Helper()
	ofA, ofB := made.LatticeOf(a, len(b)), made.LatticeOf(b, cols)
	zero, _ := mat.Zero(len(a), cols)
	if equal, _ := mat.Equal(product(ofA.Matrix(), ofB.Matrix()), zero); !equal {
		holdNoPair(t, ofA.Matrix(), ofB.Matrix(), api.ErrChain)
		return false
	}
	rank, torsion := holdPair(t, ofA.Matrix(), ofB.Matrix())
	check.Same(t, ofPair(ofA.Matrix(), ofB.Matrix())+", rank by minors", rank, len(b)-ofA.Rank-ofB.Rank)
	// The product of all factors is the divisor of the greatest minors.
	size := 1
	for _, n := range torsion {
		size *= int(n.Mag[0])
	}
	check.Same(t, ofPair(ofA.Matrix(), ofB.Matrix())+", torsion by minors", size, ofA.Minor)
	return true
}
