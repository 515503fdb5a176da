package simplex

import "slices"

// mostVertices is how many vertices a face has at most: a facet of one vertex more has 70 faces of four vertices, which are more than MaxDim.
const mostVertices = 7

// nothing stands in a face behind its vertices. (0 is a vertex.)
const nothing = -1

// face is the vertices of a face, rising, and nothing behind them: an array, so that a face is looked up in a map by its vertices.
type face [mostVertices]int

// faceOf is the face with these vertices, of which there are no more than it has room for.
func faceOf(vertices []int) face {
	var f face
	count := copy(f[:], vertices)
	slices.Sort(f[:count])
	for i := count; i < mostVertices; i++ {
		f[i] = nothing
	}
	return f
}

// without is the face that is left without the vertex at place i.
func (f face) without(i int) face {
	copy(f[i:], f[i+1:])
	f[mostVertices-1] = nothing
	return f
}

// vertices are those of a face of dimension k, as a list of its own.
func (f face) vertices(k int) []int {
	return slices.Clone(f[:k+1])
}

// byVertices orders faces of one dimension as a dictionary does.
func byVertices(f, g face) int {
	return slices.Compare(f[:], g[:])
}
