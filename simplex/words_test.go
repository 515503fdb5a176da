package simplex_test

import (
	"slices"

	"trellis/api"
	"trellis/lattice"
	"trellis/made"
	"trellis/mat"
	"trellis/snf"
	"trellis/zint"
)

// What the chapter's words lead to, step by step, with nothing taken from the layer.

// facesByWords are all sets of vertices of one facet, each once.
func facesByWords(facets [][]int) [][]int {
	var all [][]int
	for _, facet := range facets {
		vertices := slices.Sorted(slices.Values(facet))
		for size := 1; size <= len(vertices); size++ {
			all = append(all, made.Choices(vertices, size)...)
		}
	}
	slices.SortFunc(all, func(f, g []int) int {
		if len(f) != len(g) {
			return len(f) - len(g)
		}
		return slices.Compare(f, g)
	})
	return slices.CompactFunc(all, slices.Equal[[]int])
}

// countsOf is how many of the faces have each dimension.
func countsOf(faces [][]int) []int {
	var counts []int
	for _, f := range faces {
		if len(f) > len(counts) {
			counts = append(counts, 0)
		}
		counts[len(f)-1]++
	}
	return counts
}

// tooMany says if there are more than MaxDim faces of one dimension.
func tooMany(facets [][]int) bool {
	most := 0
	for _, facet := range facets {
		most = max(most, len(facet))
	}
	// All faces of great facets would take too long to tell.
	return most > 8 || slices.Max(append(countsOf(facesByWords(facets)), 0)) > api.MaxDim
}

// ofSize are the faces with so many vertices.
func ofSize(facets [][]int, size int) [][]int {
	return slices.DeleteFunc(facesByWords(facets), func(f []int) bool { return len(f) != size })
}

// boundaryByWords looks at each face and each smaller one: what is lacking there tells the entry.
func boundaryByWords(facets [][]int, k int) api.Mat {
	rows, cols := ofSize(facets, k+1), [][]int(nil)
	if k > 0 {
		cols = ofSize(facets, k)
	}
	a := api.Mat{Rows: len(rows), Cols: len(cols)}
	for _, f := range rows {
		for _, g := range cols {
			a.At = append(a.At, num(signBetween(f, g)))
		}
	}
	return a
}

// signBetween is the sign with which g stands in the boundary of f, or 0.
func signBetween(f, g []int) int {
	for i := range f {
		if slices.Equal(slices.Delete(slices.Clone(f), i, i+1), g) {
			return 1 - i%2*2
		}
	}
	return 0
}

// pairByWords tells a's rows by a basis of b's kernel, and of that matrix the Smith form.
func pairByWords(a, b api.Mat) (rank int, torsion []api.Int) {
	kernel, _ := lattice.Kernel(b)
	inside := api.Mat{Rows: a.Rows, Cols: kernel.Rows}
	for _, line := range mat.Lines(a) {
		x, _ := lattice.Solve(kernel, line)
		inside.At = append(inside.At, x...)
	}
	factors, _ := snf.Factors(inside)
	rank = kernel.Rows
	for _, n := range factors {
		if zint.Sign(n) == 0 {
			continue
		}
		rank--
		if zint.Cmp(n, num(1)) != 0 {
			torsion = append(torsion, n)
		}
	}
	return rank, torsion
}

// dividedBy is how many of the numbers a prime divides.
func dividedBy(p uint64, list []api.Int) int {
	count := 0
	for _, n := range list {
		if _, e := zint.Exact(n, plus(p)); e == api.OK {
			count++
		}
	}
	return count
}

// partsByWords goes from vertex to vertex, along facets that have both.
func partsByWords(facets [][]int) [][]int {
	var parts [][]int
	for _, v := range ofSize(facets, 1) {
		if slices.ContainsFunc(parts, func(part []int) bool { return slices.Contains(part, v[0]) }) {
			continue
		}
		part := []int{v[0]}
		for from := 0; from < len(part); from++ {
			part = append(part, newBeside(part[from], facets, part)...)
		}
		parts = append(parts, slices.Sorted(slices.Values(part)))
	}
	return parts
}

// newBeside are the vertices of facets with a vertex that do not stand in a list.
func newBeside(vertex int, facets [][]int, list []int) []int {
	var all []int
	for _, facet := range facets {
		for _, v := range facet {
			if slices.Contains(facet, vertex) && !slices.Contains(list, v) && !slices.Contains(all, v) {
				all = append(all, v)
			}
		}
	}
	return all
}

// coneByWords puts the least number that is no vertex to each facet.
func coneByWords(facets [][]int) [][]int {
	apex := 0
	for slices.Contains(slices.Concat(facets...), apex) {
		apex++
	}
	if len(facets) == 0 {
		return [][]int{{apex}}
	}
	var cone [][]int
	for _, facet := range facets {
		cone = append(cone, slices.Sorted(slices.Values(append(slices.Clone(facet), apex))))
	}
	return cone
}
