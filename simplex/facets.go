package simplex

import (
	"slices"

	"trellis/api"
)

// areFacets says if each list has a vertex, none outside 0 .. MaxVertex, and none twice.
func areFacets(facets [][]int) bool {
	// At each vertex the number of the last facet that has it, from 1 on, so that nothing need be cleared ahead of the next facet.
	var last [api.MaxVertex + 1]int
	for i, facet := range facets {
		if len(facet) == 0 {
			return false
		}
		for _, v := range facet {
			if v < 0 || v > api.MaxVertex || last[v] == i+1 {
				return false
			}
			last[v] = i + 1
		}
	}
	return true
}

// greatest is how many vertices the greatest of the facets has.
func greatest(facets [][]int) int {
	most := 0
	for _, facet := range facets {
		most = max(most, len(facet))
	}
	return most
}

// rising is a list of its own of the vertices and one more, in rising order.
func rising(vertices []int, more int) []int {
	all := append(slices.Clone(vertices), more)
	slices.Sort(all)
	return all
}
