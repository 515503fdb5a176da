package lll

import (
	"trellis/api"
	"trellis/zint"
)

// search looks through a lattice for a shortest row that is not zero.
type search struct {
	basis frame
	// best is the shortest row until now, and square that of its length.
	best   []api.Int
	square api.Int
}

// shortestOf is a shortest row of the lattice of a reduced basis, which has rows, and the square of its length.
func shortestOf(basis frame) ([]api.Int, api.Int) {
	first := basis[0]
	square, _ := zint.Dot(first.line, first.line)
	s := &search{basis, first.line, square}
	zero := basis.cast(make([]api.Int, len(first.line)), make([]api.Int, len(first.by)))
	s.look(len(basis), zero, zint.Of(0))
	return s.best, s.square
}

// look looks at all rows that differ from w by a combination of the first k rows of the basis.
// height is the square of the length of what stands in w at a right angle to those, times dk.
func (s *search) look(k int, w row, height api.Int) {
	if k == 0 {
		if !isZero(height) {
			s.best, s.square = w.line, height
		}
		return
	}
	last := s.basis[k-1]
	middle := w.less(last, s.basis.nearest(w, k-1))
	s.goOn(k-1, middle, zint.Of(1), height)
	s.goOn(k-1, middle.less(last, zint.Of(-1)), zint.Of(-1), height)
}

// goOn looks from w on, row k being taken off by steps that lead away from the middle: there the height only grows, so it stops at the first that is too high.
func (s *search) goOn(k int, w row, step, height api.Int) {
	d := s.basis.det(k)
	for {
		n := w.shadow[k]
		grown := over(zint.MulAdd(n, n, zint.Mul(d, height)), s.basis.det(k+1))
		if zint.Cmp(grown, zint.Mul(d, s.square)) >= 0 {
			return
		}
		s.look(k, w, grown)
		w = w.less(s.basis[k], step)
	}
}
