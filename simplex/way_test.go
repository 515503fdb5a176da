package simplex

import (
	"fmt"
	"testing"

	"trellis/api"
	"trellis/check"
	"trellis/made"
)

// The way of the layer: a face is found by its vertices, whatever order they came in, and so are the faces that it is bounded by.
func TestFacesByTheirVertices(t *testing.T) {
	for _, text := range []string{"", "0", "999", "3 1", "0 1 2", "2 0 1, 0 3", "5 0 999 7 1 30 2", "0 1, 1 2, 0 2, 4 0, 1 2 4"} {
		c, e := gathered(check.Lists(text))
		check.Same(t, "gathered of "+text, e, api.OK)
		count := 0
		for k, list := range c.ofDim {
			for i, f := range list {
				place, known := c.place[f]
				check.Same(t, fmt.Sprint("is it known: ", f), known, true)
				check.Same(t, fmt.Sprint("place of ", f), place, i)
				check.Same(t, fmt.Sprint("face with the vertices of ", f), faceOf(f.vertices(k)), f)
				for j := range k {
					part := f.without(j)
					check.Same(t, fmt.Sprint("what stands at the place of ", part), c.ofDim[k-1][c.place[part]], part)
				}
				count++
			}
		}
		check.Same(t, "how many faces are known of "+text, len(c.place), count)
	}
}

// A face holds as many vertices as it may have within the limits, and no more.
func TestMostVertices(t *testing.T) {
	greatest := func(vertices int) int {
		most := 0
		for size := range vertices + 1 {
			most = max(most, len(made.Choices(made.First(vertices), size)))
		}
		return most
	}
	check.Same(t, "may there be so many", greatest(mostVertices) <= api.MaxDim, true)
	check.Same(t, "may there be one more", greatest(mostVertices+1) <= api.MaxDim, false)
}
