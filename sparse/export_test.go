package sparse

// Kept are the lists of words that a grid keeps: by its calls alone no one could tell if two grids share them.
func (g *Grid) Kept() [][]uint64 {
	var all [][]uint64
	for _, n := range g.at {
		all = append(all, n.Mag)
	}
	return all
}
