package steps

import (
	"slices"

	"trellis/api"
	"trellis/zint"
)

// Factor: steps whose matrix is u.
func Factor(u api.Mat) ([]api.Step, api.Errno) {
	t, e := New(u)
	if e != api.OK {
		return nil, e
	}
	if u.Rows != u.Cols {
		return nil, api.ErrFit
	}
	r := reducer{Tape: t, settled: make([]bool, u.Rows)}
	if !r.reachesUnit() {
		return nil, api.ErrNone
	}
	// What leads from u to the unit matrix leads, taken back, from there to u.
	return Inverse(u.Rows, r.Log())
}

// reducer brings a square matrix to its Hermite form. A line is settled, if it is of the form: its first number that is not 0 stands on the diagonal and is above 0.
// One line is settled after the other, and those that are settled are kept least: so no number outgrows the minors of the matrix, where the columns one after the other would let them grow without measure.
type reducer struct {
	*Tape
	settled []bool
}

// reachesUnit says if the Hermite form is the unit matrix, as it is of unimodular matrices alone.
func (r *reducer) reachesUnit() bool {
	for i := range r.settled {
		// What comes to line i in a settled one's place is to be settled too.
		for !r.settled[i] {
			if !r.settle(i) {
				return false
			}
			r.lower()
		}
	}
	one := zint.Of(1)
	for i := range r.settled {
		if zint.Cmp(r.at(i, i), one) != 0 {
			return false
		}
	}
	return true
}

// settle clears line i by the settled ones, till its first number stands in a column that none of them has, and moves it there. It answers false, if nothing is left of it.
func (r *reducer) settle(i int) bool {
	for c, taken := range r.settled {
		switch {
		case zint.Sign(r.at(i, c)) == 0:
		case taken:
			r.cancel(i, c)
		default:
			r.exchange(i, c)
			r.makePositive(c)
			r.settled[c] = true
			return true
		}
	}
	return false
}

// cancel brings a 0 to column c of line i, and the greatest common divisor of what stood there and in line c to line c.
func (r *reducer) cancel(i, c int) {
	from, by := i, c
	r.reduce(from, by, c)
	for zint.Sign(r.at(from, c)) != 0 {
		from, by = by, from
		r.reduce(from, by, c)
	}
	r.exchange(by, c)
}

// lower makes what the settled lines have in each other's columns at least 0 and less than on the diagonal.
func (r *reducer) lower() {
	// The last line first, so that each is made less by such as are least already.
	for i, taken := range slices.Backward(r.settled) {
		for c := i + 1; taken && c < len(r.settled); c++ {
			if r.settled[c] {
				r.reduce(i, c, c)
			}
		}
	}
}

// reduce takes line j from line i as often as it leaves the least number, from 0 on, in column c, where line j has one above 0.
func (r *reducer) reduce(i, j, c int) {
	times, _, _ := zint.Floor(r.at(i, c), r.at(j, c))
	if zint.Sign(times) != 0 {
		r.work(add{i, j, zint.Neg(times)})
	}
}

func (r *reducer) exchange(i, j int) {
	if i != j {
		r.work(swap{i, j})
	}
}

func (r *reducer) makePositive(i int) {
	if zint.Sign(r.at(i, i)) < 0 {
		r.work(negate{i})
	}
}

func (r *reducer) at(i, c int) api.Int {
	return r.now.lines[i][c]
}
