package sparse

import (
	"trellis/api"
	"trellis/zint"
)

// Mul: g times h, as a new grid.
func (g *Grid) Mul(h *Grid) (*Grid, api.Errno) {
	if g == nil || h == nil {
		return nil, api.ErrArg
	}
	if g.cols != h.rows {
		return nil, api.ErrFit
	}
	product, rows := empty(g.rows, h.cols), h.at.byRows()
	for i, row := range g.at.byRows() {
		for s, n := range row {
			product.at.addTimes(i, n, rows[s.col])
		}
		// No row to come takes anything from one that is done. Within a row it would be too soon: what is there may vanish again.
		if len(product.at) > api.MaxEntries {
			break
		}
	}
	return product.unlessLarge()
}

// Add: g + h, as a new grid.
func (g *Grid) Add(h *Grid) (*Grid, api.Errno) {
	if g == nil || h == nil {
		return nil, api.ErrArg
	}
	if g.rows != h.rows || g.cols != h.cols {
		return nil, api.ErrFit
	}
	sum := g.Copy()
	for s, n := range h.at {
		sum.at.put(s, zint.Add(sum.at[s], n))
	}
	return sum.unlessLarge()
}

// Turn: the transpose, as a new grid.
func (g *Grid) Turn() *Grid {
	if g == nil {
		return nil
	}
	turned := empty(g.cols, g.rows)
	for s, n := range g.at {
		turned.at[spot{s.col, s.row}] = zint.Least(n)
	}
	return turned
}

// Copy: a grid of its own with the same places.
func (g *Grid) Copy() *Grid {
	if g == nil {
		return nil
	}
	same := empty(g.rows, g.cols)
	for s, n := range g.at {
		same.at[s] = zint.Least(n)
	}
	return same
}

// unlessLarge is a new grid, or its refusal if it holds too many places.
func (g *Grid) unlessLarge() (*Grid, api.Errno) {
	if len(g.at) > api.MaxEntries {
		clear(g.at)
		return nil, api.ErrLarge
	}
	return g, api.OK
}
