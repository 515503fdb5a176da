package simplex

import (
	"slices"

	"trellis/api"
	"trellis/mat"
	"trellis/zint"
)

// faceTable holds the faces of a complex: a list of those of each dimension that has some, in dictionary order, and of each face its place in its list.
type faceTable struct {
	ofDim [][]face
	place map[face]int
}

// complexOf are the faces of a complex, or its facets' error.
func complexOf(facets [][]int) (faceTable, api.Errno) {
	if !areFacets(facets) {
		return faceTable{}, api.ErrArg
	}
	return gathered(facets)
}

// complexAt is so too, where a dimension is asked for.
func complexAt(facets [][]int, k int) (faceTable, api.Errno) {
	if k < 0 {
		return faceTable{}, api.ErrArg
	}
	return complexOf(facets)
}

// gathered are the faces of facets whose vertices are as they must be, if there are not too many.
func gathered(facets [][]int) (faceTable, api.Errno) {
	most := greatest(facets)
	if most > mostVertices {
		return faceTable{}, api.ErrLarge
	}
	c := faceTable{make([][]face, most), map[face]int{}}
	for _, facet := range facets {
		if !c.add(faceOf(facet), len(facet)-1) {
			return faceTable{}, api.ErrLarge
		}
	}
	c.order()
	return c, api.OK
}

// add takes in a face of dimension k with all its parts; it says false where there are too many of one dimension.
func (c faceTable) add(f face, k int) bool {
	if _, known := c.place[f]; known {
		// So are its parts.
		return true
	}
	// Its place is known when all are there.
	c.place[f] = 0
	c.ofDim[k] = append(c.ofDim[k], f)
	if len(c.ofDim[k]) > api.MaxDim {
		return false
	}
	if k == 0 {
		return true
	}
	for i := range k + 1 {
		if !c.add(f.without(i), k-1) {
			return false
		}
	}
	return true
}

// order brings the faces of each dimension, which came in the order of the facets, into their own, and so tells their places.
func (c faceTable) order() {
	for _, list := range c.ofDim {
		slices.SortFunc(list, byVertices)
		for i, f := range list {
			c.place[f] = i
		}
	}
}

// hasDim says if there are faces of dimension k.
func (c faceTable) hasDim(k int) bool { return k >= 0 && k < len(c.ofDim) }

// faces are those of dimension k, whatever k is.
func (c faceTable) faces(k int) []face {
	if !c.hasDim(k) {
		return nil
	}
	return c.ofDim[k]
}

// boundary is the matrix from dimension k, at least 0, to the one below it.
func (c faceTable) boundary(k int) api.Mat {
	rows, cols := c.faces(k), c.faces(k-1)
	// They are within the limits, so there is no error.
	a, _ := mat.Zero(len(rows), len(cols))
	if k == 0 {
		// Without its vertex no face is left of a vertex.
		return a
	}
	for i, f := range rows {
		sign := int64(1)
		for j := range k + 1 {
			a.At[i*a.Cols+c.place[f.without(j)]] = zint.Of(sign)
			sign = -sign
		}
	}
	return a
}

// betti is the number of faces of dimension k, at least 0, less the ranks of the boundaries from it and to it, as rank tells them.
func (c faceTable) betti(k int, rank func(api.Mat) int) int {
	if !c.hasDim(k) {
		return 0
	}
	return len(c.ofDim[k]) - rank(c.boundary(k)) - rank(c.boundary(k+1))
}

// apex is the least number from 0 on that is no vertex.
func (c faceTable) apex() int {
	vertices := c.faces(0)
	for i, f := range vertices {
		if f[0] != i {
			return i
		}
	}
	return len(vertices)
}

// isZero says if a sound matrix is 0 everywhere.
func isZero(a api.Mat) bool {
	return !slices.ContainsFunc(a.At, func(n api.Int) bool { return zint.Sign(n) != 0 })
}
