package hnf

import (
	"testing"

	"trellis/check"
	"trellis/made"
)

// P18.2, its way: whatever is done to the rows, the hands keep U times a as H and W as the inverse of U.
func TestHands(t *testing.T) {
	s := made.Source{Words: 1, Seed: 1}
	a := s.Whole(3, 4)
	h, u, w := linesOf(a), unitLines(3), unitLines(3)
	work := stairs{looked: []lines{h, u}, hands: []hand{along(h), along(u), against(w)}}
	mixed := pair{{check.Num(5), check.Num(7)}, {check.Num(2), check.Num(3)}}
	for i := range 3 {
		for j := range 3 {
			if i == j {
				continue
			}
			for name, do := range map[string]func(){
				"exchange": func() { work.exchange(i, j) },
				"negate":   func() { work.makePositive(i, 0) },
				"less":     func() { work.less(i, j, s.Next()) },
				"mix":      func() { work.mix(i, j, mixed) },
			} {
				do()
				check.Mat(t, name+": U times a", made.Product(matrix(u, 3), a), matrix(h, 4))
				inverse := made.Turned(matrix(w, 3))
				check.Mat(t, name+": U times W", made.Product(matrix(u, 3), inverse), matrix(unitLines(3), 3))
				check.Mat(t, name+": W times U", made.Product(inverse, matrix(u, 3)), matrix(unitLines(3), 3))
			}
		}
	}
}

// P18.2, its way: each hand does what its function says.
func TestAlongAndAgainst(t *testing.T) {
	for _, c := range []struct {
		do            func(h hand)
		along, upside string
	}{
		{func(h hand) { h.exchange(0, 2) }, "5 6; 3 4; 1 2", "5 6; 3 4; 1 2"},
		{func(h hand) { h.negate(1) }, "1 2; -3 -4; 5 6", "1 2; -3 -4; 5 6"},
		{func(h hand) { h.less(0, 1, check.Num(10)) }, "-29 -38; 3 4; 5 6", "1 2; 13 24; 5 6"},
		{func(h hand) { h.mix(0, 2, pair{{check.Num(2), check.Num(1)}, {check.Num(7), check.Num(4)}}) }, "7 10; 3 4; 27 38", "-31 -34; 3 4; 9 10"},
	} {
		same, other := linesOf(check.Matrix("1 2; 3 4; 5 6")), linesOf(check.Matrix("1 2; 3 4; 5 6"))
		c.do(along(same))
		c.do(against(other))
		check.Mat(t, "along", matrix(same, 2), check.Matrix(c.along))
		check.Mat(t, "against", matrix(other, 2), check.Matrix(c.upside))
	}
}

// P18.1, its way: rows that are settled one after the other are always wholly in the form.
func TestSettledRows(t *testing.T) {
	for seed := range 20 {
		s := made.Source{Words: seed % 3, Seed: uint64(seed)}
		h := linesOf(s.OfRank(7, 6, 1+seed%6))
		work := stairs{looked: []lines{h}, hands: []hand{along(h)}}
		for i := range h {
			work.settle(i)
			var settled lines
			for _, one := range work.steps {
				settled = append(settled, h[one.row])
			}
			cols, is := pivotsOf(settled)
			check.Same(t, "in Hermite form", is, true)
			check.Same(t, "how many pivots", len(cols), len(work.steps))
			for k, one := range work.steps {
				check.Same(t, "column", cols[k], one.col)
			}
		}
	}
}
