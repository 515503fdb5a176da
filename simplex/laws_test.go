package simplex_test

import (
	"fmt"
	"slices"
	"testing"

	"trellis/api"
	"trellis/check"
	"trellis/made"
	"trellis/mat"
	"trellis/simplex"
)

// someComplexes are of many sizes and dimensions, their facets in no order, all within the limits.
func someComplexes() [][][]int {
	all := [][][]int{nil, cx("0"), cx(plane), torus(), grid(true), moore(3), glued(), suspended(cx(plane)), sets(7, 7, 1), sets(7, 6, 7), ring(64), points(9), cx("999 0 998 1, 3 999")}
	for seed := range 60 {
		s := made.Source{Seed: uint64(seed)}
		facets := mixedFacets(&s, 3+seed%8, 2+seed%9)
		if !tooMany(facets) {
			all = append(all, facets)
		}
	}
	return all
}

// lastVertex is the greatest vertex, or 0 where there is none.
func lastVertex(facets [][]int) int {
	last := 0
	for _, facet := range facets {
		last = max(last, slices.Max(facet))
	}
	return last
}

// mixedFacets are so many facets of at most five vertices out of so many.
func mixedFacets(s *made.Source, vertices, count int) [][]int {
	var facets [][]int
	for range count {
		size := 1 + int(s.Word()%uint64(min(vertices, 5)))
		facets = append(facets, s.Order(vertices)[:size])
	}
	return facets
}

// P24.1 to P24.7 at complexes of many sizes.
func TestMixed(t *testing.T) {
	counts := [2]int{}
	for _, facets := range someComplexes() {
		for _, h := range holdComplex(t, facets) {
			counts[0] += h.rank
			counts[1] += len(h.torsion)
		}
	}
	check.Same(t, "do some have ranks and torsion", counts[0] > 100 && counts[1] > 4, true)
}

// P24.1: every part of a face that has a vertex is a face; each face is a part of a facet; and each stands once, in its place.
func TestPartsOfFaces(t *testing.T) {
	for _, facets := range someComplexes() {
		faces := holdFaces(t, facets)
		for i, f := range faces {
			for place := range f {
				part := slices.Delete(slices.Clone(f), place, place+1)
				has := slices.ContainsFunc(faces[:i], func(g []int) bool { return slices.Equal(part, g) })
				check.Same(t, fmt.Sprint(of("is a part a face", facets), part), has, len(part) > 0)
			}
			check.Same(t, fmt.Sprint(of("do the vertices rise", facets), f), len(slices.Compact(slices.Sorted(slices.Values(f)))) == len(f) && slices.IsSorted(f), true)
			if i > 0 {
				before := faces[i-1]
				check.Same(t, fmt.Sprint(of("order of faces", facets), before, f), len(before) < len(f) || len(before) == len(f) && slices.Compare(before, f) < 0, true)
			}
		}
	}
}

// P24.2: two boundary matrices that follow each other multiply to zero; their shapes are the numbers of faces.
func TestBoundaries(t *testing.T) {
	for _, facets := range someComplexes() {
		counts := append(countsOf(holdFaces(t, facets)), 0, 0, 0)
		above, below := 0, 0
		for k, count := range counts[:len(counts)-1] {
			a, e := simplex.Boundary(facets, k+1)
			check.Same(t, at("Boundary", facets, k+1), e, api.OK)
			b, e := simplex.Boundary(facets, k)
			check.Same(t, at("Boundary", facets, k), e, api.OK)
			above = counts[k+1]
			check.Same(t, at("shapes of Boundary", facets, k), [4]int{a.Rows, a.Cols, b.Rows, b.Cols}, [4]int{above, count, count, below})
			zero, _ := mat.Zero(above, below)
			check.Mat(t, at("product of Boundary", facets, k), product(a, b), zero)
			rank, torsion, e := simplex.Pair(a, b)
			check.Same(t, at("Pair of Boundary", facets, k), e, api.OK)
			holdAnswered(t, facets, k, rank, torsion)
			below = count
		}
	}
}

// P24.8: in any order of facets and vertices, with facets twice and with faces beside the facets they belong to, each call but Cone answers the same.
func TestSameFaces(t *testing.T) {
	calls := takers()
	delete(calls, "Cone")
	for i, facets := range someComplexes() {
		s := made.Source{Seed: uint64(i)}
		for round := range 4 {
			other := disguisedFacets(&s, facets, round)
			for name, call := range calls {
				got, e := call(other)
				want, f := call(facets)
				check.Same(t, of(name, other), e, f)
				check.SameLists(t, of(name, other), got, want)
			}
			holdCone(t, other)
		}
	}
}

// disguisedFacets are others that have the same faces.
func disguisedFacets(s *made.Source, facets [][]int, round int) [][]int {
	all := slices.Clone(facets)
	if round == 1 {
		all = facesByWords(facets)
	}
	if round > 1 {
		for _, f := range facesByWords(facets) {
			if s.Word()%3 == 0 {
				all = append(all, f, f)
			}
		}
		all = slices.Concat(all, facets)
	}
	var mixed [][]int
	for _, place := range s.Order(len(all)) {
		var facet []int
		for _, vertex := range s.Order(len(all[place])) {
			facet = append(facet, all[place][vertex])
		}
		mixed = append(mixed, facet)
	}
	return mixed
}

// P24.8: an error too hangs on the set of the faces alone.
func TestSameErrors(t *testing.T) {
	for _, facets := range [][][]int{points(65), ring(65), sets(8, 8, 1), sets(9, 3, 65)} {
		s := made.Source{Seed: uint64(len(facets))}
		for range 5 {
			var mixed [][]int
			for _, place := range s.Order(len(facets)) {
				facet := slices.Clone(facets[place])
				slices.Reverse(facet)
				mixed = append(mixed, facet, facet)
			}
			holdRefused(t, mixed, api.ErrLarge)
		}
	}
}

// P24.2 and P24.3: other vertices that stand in the same order leave matrices and homology as they are; in another order, the homology.
func TestOtherVertices(t *testing.T) {
	for i, facets := range someComplexes() {
		if lastVertex(facets) > 63 {
			continue
		}
		s := made.Source{Seed: uint64(i)}
		places := s.Places(64, 1000)
		order := s.Order(1000)
		raised := moved(facets, func(v int) int { return places[v] })
		mixed := moved(facets, func(v int) int { return order[v] })
		for k := range countsOf(facesByWords(facets)) {
			a := holdBoundary(t, raised, k)
			check.Mat(t, at("Boundary", raised, k), a, holdBoundary(t, facets, k))
			rank, torsion := holdHomology(t, facets, k)
			holdAnswered(t, raised, k, rank, torsion)
			holdAnswered(t, mixed, k, rank, torsion)
		}
	}
}

// P24.3: of complexes beside one another ranks and torsion are put together; a suspension has what was in the dimension below.
func TestPutTogether(t *testing.T) {
	for _, facets := range someComplexes() {
		if lastVertex(facets) > 49 {
			continue
		}
		two := beside(facets, facets)
		up := suspended(facets)
		for k := range countsOf(facesByWords(facets)) {
			rank, torsion := holdHomology(t, facets, k)
			if !tooMany(two) {
				holdAnswered(t, two, k, 2*rank, twiceEach(torsion))
			}
			if !tooMany(up) {
				if k == 0 {
					// What two points join is in one part.
					rank--
				}
				holdAnswered(t, up, k+1, rank, torsion)
			}
		}
	}
}

// twiceEach has each number of a list two times.
func twiceEach(list []api.Int) []api.Int {
	var all []api.Int
	for _, n := range list {
		all = append(all, n, n)
	}
	return all
}

// P24.7: cones upon cones have the homology of a point, as long as there are not too many faces.
func TestCones(t *testing.T) {
	for _, facets := range someComplexes() {
		for range 3 {
			facets = holdCone(t, facets)
			holdPoint(t, facets)
			if tooMany(facets) {
				break
			}
		}
	}
	for _, c := range [][2]string{
		{"", "0"}, {"0", "0 1"}, {"1", "0 1"}, {"999", "0 999"}, {"0, 1, 2", "0 3, 1 3, 2 3"}, {"0, 2", "0 1, 1 2"}, {"2 0 1", "0 1 2 3"}, {"5 3, 3 5, 0, 3", "1 3 5, 1 3 5, 0 1, 1 3"}, {"0 1 2 3 4 5 6", "0 1 2 3 4 5 6 7"}, {"7 6 5 4 3 2 1", "0 1 2 3 4 5 6 7"}, {"0, 1, 3 2, 5", "0 4, 1 4, 2 3 4, 4 5"},
	} {
		check.SameLists(t, "Cone of "+c[0], holdCone(t, cx(c[0])), cx(c[1]))
	}
	// The apex is a vertex more than all that there may be.
	cone := holdCone(t, points(64))
	check.SameLists(t, "the last facet of Cone of 64 points", cone[63:], cx("63 64"))
	holdRefused(t, cone, api.ErrLarge)
}

// P24.4 at many primes: modulo those that divide no torsion, the ranks.
func TestManyPrimes(t *testing.T) {
	for _, p := range []uint64{2, 3, 5, 7, 11, 2147483629, 2147483647} {
		for n := 1; n <= 5; n++ {
			divides := 0
			if uint64(n) == p || n == 4 && p == 2 {
				divides = 1
			}
			for k, want := range []int{1, divides, divides, 0} {
				holdBettiMod(t, moore(n), k, p, want)
			}
		}
	}
}
