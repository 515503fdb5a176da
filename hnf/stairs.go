package hnf

import (
	"slices"

	"trellis/api"
	"trellis/bezout"
	"trellis/zint"
)

// step is a row that has been settled and is not zero, and the column of its pivot.
type step struct{ row, col int }

// stairs bring rows to their Hermite form, one row after the other: those that have been settled are always wholly in the form. So no number becomes much longer than the minors of the rows, where the columns, one after the other, would let them grow without measure.
type stairs struct {
	// looked are the lines that are brought to the form, those of the first one at the left.
	looked []lines
	// hands are told all that is done to the rows: what is looked at is in the keeping of some.
	hands []hand
	// steps stand in the order of their columns, wherever their rows stand.
	steps []step
}

// formed brings lines to their Hermite form, and answers how many of them are not zero.
func formed(h lines) int {
	work := stairs{looked: []lines{h}, hands: []hand{along(h)}}
	work.settleAll(len(h))
	return len(work.steps)
}

// settleAll brings the first n rows to the Hermite form.
func (s *stairs) settleAll(n int) {
	for i := range n {
		s.settle(i)
	}
	s.order()
}

// settle brings row i to the form with those that have been settled.
func (s *stairs) settle(i int) {
	if place, col, found := s.leave(i); found {
		s.makePositive(i, col)
		s.steps = slices.Insert(s.steps, place, step{i, col})
	}
	s.lower()
}

// leave leaves of row i what the steps leave of it: its first number stands in a column that no step has, the found one, or nothing is left. place is how many steps have columns before it.
func (s *stairs) leave(i int) (place, col int, found bool) {
	for c := range s.width(i) {
		isStep := place < len(s.steps) && s.steps[place].col == c
		switch {
		case isZero(s.at(i, c)):
		case isStep:
			s.cancel(i, s.steps[place])
		default:
			return place, c, true
		}
		if isStep {
			place++
		}
	}
	return 0, 0, false
}

// cancel brings a 0 to row i in the column of a step, and the greatest common divisor of what stood there and of the pivot to the pivot's place.
func (s *stairs) cancel(i int, by step) {
	n, pivot := s.at(i, by.col), s.at(by.row, by.col)
	if times, e := zint.Exact(n, pivot); e == api.OK {
		s.less(i, by.row, times)
		return
	}
	g, x, y := bezout.Ext(pivot, n)
	// The divisor leaves no rest and is not 0, so there is no error.
	part, _ := zint.Exact(n, g)
	ofPivot, _ := zint.Exact(pivot, g)
	s.mix(by.row, i, pair{{x, y}, {zint.Neg(part), ofPivot}})
}

// lower makes what stands above each pivot at least 0 and less than the pivot.
func (s *stairs) lower() {
	// The last row first, so that each is made less by such as are least already.
	for k, upper := range slices.Backward(s.steps) {
		for _, lower := range s.steps[k+1:] {
			s.reduce(upper.row, lower)
		}
	}
}

// reduce makes what row i has in the column of a step at least 0 and less than the pivot.
func (s *stairs) reduce(i int, by step) {
	n, pivot := s.at(i, by.col), s.at(by.row, by.col)
	if isReduced(n, pivot) {
		return
	}
	times, _, _ := zint.Floor(n, pivot)
	s.less(i, by.row, times)
}

// order puts the steps in the order of their pivots, above the rows that are zero.
func (s *stairs) order() {
	for k := range s.steps {
		from := s.steps[k].row
		s.exchange(from, k)
		// The step whose row stood in this place, if it was one, has its row where this one came from.
		for l, other := range s.steps {
			if other.row == k {
				s.steps[l].row = from
			}
		}
		s.steps[k].row = k
	}
}

// at is what row i has in column c.
func (s *stairs) at(i, c int) api.Int {
	for _, all := range s.looked {
		if c < len(all[i]) {
			return all[i][c]
		}
		c -= len(all[i])
	}
	return api.Int{}
}

// width is how many columns row i has.
func (s *stairs) width(i int) int {
	sum := 0
	for _, all := range s.looked {
		sum += len(all[i])
	}
	return sum
}

func (s *stairs) exchange(i, j int) {
	if i == j {
		return
	}
	for _, h := range s.hands {
		h.exchange(i, j)
	}
}

func (s *stairs) makePositive(i, c int) {
	if zint.Sign(s.at(i, c)) > 0 {
		return
	}
	for _, h := range s.hands {
		h.negate(i)
	}
}

func (s *stairs) less(i, j int, times api.Int) {
	for _, h := range s.hands {
		h.less(i, j, times)
	}
}

func (s *stairs) mix(i, j int, by pair) {
	for _, h := range s.hands {
		h.mix(i, j, by)
	}
}
