package modhnf

import (
	"slices"

	"trellis/api"
	"trellis/bezout"
	"trellis/mat"
	"trellis/zint"
)

// triangle is a basis of a lattice in which all rows of multiples of the modulus lie: line i has zeros in the columns before i, and a pivot in column i that divides the modulus.
// A multiple of the modulus may be taken from any number behind a pivot: the lines below make up for it. So the numbers of the lines stay at most as long as the modulus, and those of a row that is worked on no more than about twice as long.
type triangle struct {
	modulus api.Int
	lines   [][]api.Int
}

// multiplesOf is the basis of all rows of n numbers that are multiples of d, which is not 0.
func multiplesOf(d api.Int, n int) *triangle {
	t := &triangle{modulus: zint.Abs(d)}
	for i := range n {
		line := make([]api.Int, n)
		line[i] = t.modulus
		t.lines = append(t.lines, line)
	}
	return t
}

// put takes a row into the lattice, and uses its list up.
func (t *triangle) put(row []api.Int) {
	for c := range row {
		row[c] = t.rest(row[c])
		if zint.Sign(row[c]) != 0 {
			t.cancel(row, c)
		}
	}
}

// cancel brings a 0 to the row in column c, and the greatest common divisor of what stood there and of the pivot to the pivot's place.
func (t *triangle) cancel(row []api.Int, c int) {
	pivot := t.lines[c][c]
	if times, e := zint.Exact(row[c], pivot); e == api.OK {
		t.less(row, c, times)
		return
	}
	g, x, y := bezout.Ext(pivot, row[c])
	// The divisor leaves no rest and is not 0, so there is no error.
	part, _ := zint.Exact(row[c], g)
	ofPivot, _ := zint.Exact(pivot, g)
	t.mix(row, c, [2][2]api.Int{{x, y}, {zint.Neg(part), ofPivot}})
}

// less takes line c from the row, as often as times says, which is less than the modulus. The row is left without its rests: one for each column, when that column's turn comes, is less work than one for each step.
func (t *triangle) less(row []api.Int, c int, times api.Int) {
	for j := c; j < len(row); j++ {
		if n := t.lines[c][j]; zint.Sign(n) != 0 {
			row[j] = zint.Sub(row[j], zint.Mul(times, n))
		}
	}
}

// mix makes of line c and of the row the two sums of them that by says, with the determinant 1. The new pivot is less than the one before, and so less than the modulus.
func (t *triangle) mix(row []api.Int, c int, by [2][2]api.Int) {
	line := t.lines[c]
	for j := c; j < len(row); j++ {
		n, m := line[j], t.rest(row[j])
		line[j] = t.rest(zint.MulAdd(by[0][0], n, zint.Mul(by[0][1], m)))
		row[j] = t.rest(zint.MulAdd(by[1][0], n, zint.Mul(by[1][1], m)))
	}
}

// lower makes what stands above each pivot at least 0 and less than the pivot.
func (t *triangle) lower() {
	// The last line first, so that each is made less by such as are least already.
	for i, line := range slices.Backward(t.lines) {
		for c := i + 1; c < len(line); c++ {
			line[c] = t.rest(line[c])
			// A pivot is not 0, so there is no error.
			times, _, _ := zint.Floor(line[c], t.lines[c][c])
			if zint.Sign(times) != 0 {
				t.less(line, c, times)
			}
		}
	}
}

// rest is n without multiples of the modulus.
func (t *triangle) rest(n api.Int) api.Int {
	r, _ := zint.Mod(n, t.modulus)
	return r
}

// matrix is that of the lines, as a copy.
func (t *triangle) matrix() api.Mat {
	a, _ := mat.Make(len(t.lines), len(t.lines), slices.Concat(t.lines...))
	return a
}
