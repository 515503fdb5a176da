package simplex_test

import (
	"fmt"
	"math"
	"testing"

	"trellis/api"
	"trellis/check"
	"trellis/made"
	"trellis/simplex"
)

// The numbers, matrices and complexes of the tests.
var (
	num, nums   = check.Num, check.Nums
	plus, minus = check.Plus, check.Minus
	row, mx     = check.Row, check.Matrix
	cx          = check.Lists
	product     = made.Product
)

// of names a call on a complex in a test's report.
func of(name string, facets [][]int) string {
	if len(facets) > 30 {
		return fmt.Sprintf("%s of %d facets, the first of them %v", name, len(facets), facets[:5])
	}
	return fmt.Sprintf("%s(%v)", name, facets)
}

// at names a call on a complex in one dimension.
func at(name string, facets [][]int, k int) string {
	return fmt.Sprint(of(name, facets), " in dimension ", k)
}

// ofPair names a call of Pair.
func ofPair(a, b api.Mat) string {
	if len(a.At)+len(b.At) > 40 {
		return fmt.Sprintf("Pair of %d by %d and %d by %d", a.Rows, a.Cols, b.Rows, b.Cols)
	}
	return fmt.Sprintf("Pair(%v, %v)", a, b)
}

// somePrimes are those modulo which homology is asked for: small ones, which divide torsion, and the greatest.
func somePrimes() []uint64 { return []uint64{2, 3, 5, 2147483647} }

// holdFaces asks for the faces that the chapter's words lead to.
func holdFaces(t *testing.T, facets [][]int) [][]int {
	t.Helper()
	faces, e := simplex.Faces(facets)
	check.Same(t, of("Faces", facets), e, api.OK)
	check.SameLists(t, of("Faces", facets), faces, facesByWords(facets))
	return faces
}

// holdBoundary asks for the boundary matrix that the chapter's words lead to.
func holdBoundary(t *testing.T, facets [][]int, k int) api.Mat {
	t.Helper()
	a, e := simplex.Boundary(facets, k)
	check.Same(t, at("Boundary", facets, k), e, api.OK)
	check.Mat(t, at("Boundary", facets, k), a, boundaryByWords(facets, k))
	return a
}

// holdPair asks for the homology that the chapter's words lead to, by way of a basis of the kernel.
func holdPair(t *testing.T, a, b api.Mat) (int, []api.Int) {
	t.Helper()
	wantRank, wantTorsion := pairByWords(a, b)
	rank, torsion, e := simplex.Pair(a, b)
	check.Same(t, ofPair(a, b), e, api.OK)
	check.Same(t, ofPair(a, b)+", rank", rank, wantRank)
	check.Ints(t, ofPair(a, b)+", torsion", torsion, wantTorsion)
	return rank, torsion
}

// holdGroup asks for this rank and this torsion of Pair.
func holdGroup(t *testing.T, a, b api.Mat, wantRank int, wantTorsion []api.Int) {
	t.Helper()
	rank, torsion := holdPair(t, a, b)
	check.Same(t, ofPair(a, b)+", rank that is known", rank, wantRank)
	check.Ints(t, ofPair(a, b)+", torsion that is known", torsion, wantTorsion)
}

// holdHomology asks for what Pair answers of the boundary matrices.
func holdHomology(t *testing.T, facets [][]int, k int) (int, []api.Int) {
	t.Helper()
	wantRank, wantTorsion := pairByWords(boundaryByWords(facets, k+1), boundaryByWords(facets, k))
	holdAnswered(t, facets, k, wantRank, wantTorsion)
	return wantRank, wantTorsion
}

// holdAnswered asks for this rank and this torsion of Homology.
func holdAnswered(t *testing.T, facets [][]int, k, wantRank int, wantTorsion []api.Int) {
	t.Helper()
	rank, torsion, e := simplex.Homology(facets, k)
	check.Same(t, at("Homology", facets, k), e, api.OK)
	check.Same(t, at("rank of Homology", facets, k), rank, wantRank)
	check.Ints(t, at("torsion of Homology", facets, k), torsion, wantTorsion)
}

// holdBettiMod asks for this dimension.
func holdBettiMod(t *testing.T, facets [][]int, k int, p uint64, want int) {
	t.Helper()
	got, e := simplex.BettiMod(facets, k, p)
	call := fmt.Sprint(at("BettiMod", facets, k), " modulo ", p)
	check.Same(t, call, e, api.OK)
	check.Same(t, call, got, want)
}

// holdBetti asks for these ranks.
func holdBetti(t *testing.T, facets [][]int, want ...int) {
	t.Helper()
	got, e := simplex.Betti(facets)
	check.Same(t, of("Betti", facets), e, api.OK)
	check.SameLists(t, of("Betti", facets), [][]int{got}, [][]int{want})
}

func holdEuler(t *testing.T, facets [][]int, want int) {
	t.Helper()
	got, e := simplex.Euler(facets)
	check.Same(t, of("Euler", facets), e, api.OK)
	check.Same(t, of("Euler", facets), got, want)
}

func holdParts(t *testing.T, facets, want [][]int) {
	t.Helper()
	got, e := simplex.Parts(facets)
	check.Same(t, of("Parts", facets), e, api.OK)
	check.SameLists(t, of("Parts", facets), got, want)
}

// holdCone asks for the facets of the cone that the chapter's words lead to.
func holdCone(t *testing.T, facets [][]int) [][]int {
	t.Helper()
	cone, e := simplex.Cone(facets)
	check.Same(t, of("Cone", facets), e, api.OK)
	check.SameLists(t, of("Cone", facets), cone, coneByWords(facets))
	return cone
}

// holdComplex holds all calls on a complex, by the chapter's words and by its promises, and tells of each dimension rank and torsion.
func holdComplex(t *testing.T, facets [][]int) []homology {
	t.Helper()
	counts := countsOf(holdFaces(t, facets))
	// Beyond the last dimension too.
	for k := range len(counts) + 3 {
		holdBoundary(t, facets, k)
	}
	var all []homology
	var ranks []int
	euler, sum := 0, 0
	for k, count := range counts {
		rank, torsion := holdHomology(t, facets, k)
		all = append(all, homology{rank, torsion})
		ranks = append(ranks, rank)
		euler += count * (1 - k%2*2)
		sum += rank * (1 - k%2*2)
	}
	check.Same(t, of("faces and ranks, with signs in turn", facets), euler, sum)
	holdEuler(t, facets, sum)
	holdBetti(t, facets, ranks...)
	holdResidues(t, facets, all)
	parts := partsByWords(facets)
	holdParts(t, facets, parts)
	if len(ranks) > 0 {
		check.Same(t, of("rank in dimension 0 and parts", facets), ranks[0], len(parts))
	}
	holdNoDimension(t, facets, len(counts))
	holdPoint(t, holdCone(t, facets))
	return all
}

// homology is what Homology tells of one dimension.
type homology struct {
	rank    int
	torsion []api.Int
}

// holdResidues asks for the homology modulo primes that the homology over the integers makes.
func holdResidues(t *testing.T, facets [][]int, all []homology) {
	t.Helper()
	for _, p := range somePrimes() {
		below := 0
		for k, h := range all {
			here := dividedBy(p, h.torsion)
			holdBettiMod(t, facets, k, p, h.rank+here+below)
			below = here
		}
		check.Same(t, of("torsion in the last dimension", facets), below, 0)
	}
}

// holdNoDimension asks for nothing in dimensions from one on.
func holdNoDimension(t *testing.T, facets [][]int, from int) {
	t.Helper()
	for _, k := range farDimensions(from) {
		holdAnswered(t, facets, k, 0, nil)
		holdBettiMod(t, facets, k, 2, 0)
		if k == from {
			continue
		}
		a, e := simplex.Boundary(facets, k)
		check.Same(t, at("Boundary", facets, k), e, api.OK)
		check.Mat(t, at("Boundary", facets, k), a, mx("0x0"))
	}
}

// farDimensions are some from one on, the greatest among them.
func farDimensions(from int) []int {
	return []int{from, from + 1, from + 7, 64, 65, 1000, 1 << 31, 1 << 32, 1<<62 + 3, math.MaxInt - 1, math.MaxInt}
}

// holdPoint asks for the homology of a point, if there are not too many faces.
func holdPoint(t *testing.T, facets [][]int) {
	t.Helper()
	if tooMany(facets) {
		holdRefused(t, facets, api.ErrLarge)
		return
	}
	counts := countsOf(facesByWords(facets))
	ranks := make([]int, len(counts))
	for k := range counts {
		ranks[k] = max(0, 1-k)
		holdAnswered(t, facets, k, ranks[k], nil)
		holdBettiMod(t, facets, k, 2, ranks[k])
	}
	holdBetti(t, facets, ranks...)
	holdEuler(t, facets, 1)
	holdParts(t, facets, partsByWords(facets))
	check.Same(t, of("how many parts", facets), len(partsByWords(facets)), 1)
}
