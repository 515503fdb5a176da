package simplex

import "slices"

// joined are the parts into which edges join vertices, which stand rising.
func joined(vertices, edges []face) [][]int {
	var parts [][]int
	for _, v := range vertices {
		parts = append(parts, v.vertices(0))
	}
	for _, edge := range edges {
		i, j := partWith(parts, edge[0]), partWith(parts, edge[1])
		if i != j {
			parts = join(parts, min(i, j), max(i, j))
		}
	}
	for _, part := range parts {
		slices.Sort(part)
	}
	return parts
}

// partWith is the place of the part that has a vertex.
func partWith(parts [][]int, vertex int) int {
	return slices.IndexFunc(parts, func(part []int) bool { return slices.Contains(part, vertex) })
}

// join puts a later part to an earlier one: so the parts stay in the order of their first vertices.
func join(parts [][]int, earlier, later int) [][]int {
	parts[earlier] = append(parts[earlier], parts[later]...)
	return slices.Delete(parts, later, later+1)
}
