package steps

// Kept are the lists of words that a tape keeps: by its calls alone no one could tell if two tapes share them.
func (t *Tape) Kept() [][]uint64 {
	var all [][]uint64
	for _, line := range t.now.lines {
		for _, n := range line {
			all = append(all, n.Mag)
		}
	}
	for _, list := range [][]step{t.done, t.undone} {
		for _, one := range list {
			if s, ok := one.(add); ok {
				all = append(all, s.k.Mag)
			}
		}
	}
	return all
}
