package minors

import (
	"slices"

	"trellis/api"
	"trellis/bareiss"
	"trellis/mat"
	"trellis/zint"
)

// table is a matrix a with the unit matrix beside it: of the columns of both, as many as a has rows are taken for a basis, and all others are written by that basis. The columns of a have the numbers from 0 on, those of the unit matrix the numbers from a's Cols on.
// A minor of a is the determinant of its columns in the places of its rows, with the columns of the unit matrix in all other places. The more of these columns are in the basis, the smaller is the determinant that is left when they are written by it: so from one table, with most of a's columns in the basis, each of the minors that leave out few rows and columns is found with little work.
type table struct {
	// The column with the number others[j] is the sum of by.At[i*by.Cols+j] times that of the number basis[i], over det.
	by            api.Mat
	basis, others []int
	// det is the determinant of the basis.
	det api.Int
	// rank is the rank of a, or where it is not known the most that it can be.
	rank int
}

// tableFor is the table by which minors of k rows and k columns of a, which is sound, are found with the least work.
func tableFor(a api.Mat, k int) *table {
	t := tableOf(a)
	// With as many columns of a in the basis as may be, a minor that is not 0 has at most so many columns that are not in it; as it stands, k.
	if a.Rows-k+a.Cols-k < k {
		t.settle()
	}
	return t
}

// tableOf is the table of a whose basis are the columns of the unit matrix.
func tableOf(a api.Mat) *table {
	own, _ := mat.Least(a)
	t := &table{by: own, others: firstPlaces(a.Cols), det: zint.Of(1), rank: min(a.Rows, a.Cols)}
	for i := range a.Rows {
		t.basis = append(t.basis, a.Cols+i)
	}
	return t
}

// settle brings as many columns of a into the basis as may be.
func (t *table) settle() {
	t.rank = 0
	for i := range t.by.Rows {
		line := t.by.At[i*t.by.Cols : (i+1)*t.by.Cols]
		for j, entry := range line {
			if t.others[j] < t.by.Cols && zint.Sign(entry) != 0 {
				t.exchange(i, j)
				t.rank++
				break
			}
		}
	}
}

// exchange lets the column at others[q] change places with that at basis[p], where the entry at p and q is not 0.
func (t *table) exchange(p, q int) {
	cols := t.by.Cols
	before, pivot := t.det, t.by.At[p*cols+q]
	for i := range t.by.Rows {
		if i == p {
			continue
		}
		line, times := t.by.At[i*cols:(i+1)*cols], t.by.At[i*cols+q]
		for j, n := range t.by.At[p*cols : (p+1)*cols] {
			crossed := zint.Sub(zint.Mul(pivot, line[j]), zint.Mul(times, n))
			// All entries are determinants, up to their sign, and the determinant before divides this difference: so there is no error.
			line[j], _ = zint.Exact(crossed, before)
		}
		line[q] = zint.Neg(times)
	}
	t.by.At[p*cols+q] = before
	t.det = pivot
	t.basis[p], t.others[q] = t.others[q], t.basis[p]
}

// minor is that of the matrix at these rows and columns, two choices.
func (t *table) minor(rows, cols []int) api.Int {
	// Found below too, but of a matrix of little rank with much work.
	if len(rows) > t.rank {
		return api.Int{}
	}
	wanted := make([]int, t.by.Rows)
	for i := range wanted {
		wanted[i] = t.by.Cols + i
	}
	for i, row := range rows {
		wanted[row] = cols[i]
	}
	return t.detOf(wanted)
}

// detOf is the determinant of the columns with these numbers.
func (t *table) detOf(wanted []int) api.Int {
	// A wanted column that the basis has in row i is, by the basis, the unit column number i: what is left is the determinant at the rows free and the columns slots, with the sign of the order in which the rows come.
	order := make([]int, len(wanted))
	var free, open, slots []int
	for place, column := range wanted {
		order[place] = slices.Index(t.basis, column)
		if order[place] < 0 {
			open = append(open, place)
			slots = append(slots, slices.Index(t.others, column))
		}
	}
	for i, column := range t.basis {
		if !slices.Contains(wanted, column) {
			order[open[len(free)]] = i
			free = append(free, i)
		}
	}
	left, _ := mat.Pick(t.by, free, slots)
	d, _ := bareiss.Det(left)
	// Each column is over det, and the basis has itself the determinant det.
	d = zint.Mul(d, t.det)
	for range slots {
		d, _ = zint.Exact(d, t.det)
	}
	if isOdd(order) {
		return zint.Neg(d)
	}
	return d
}

// isOdd says if an odd number of pairs of the order stands the wrong way round.
func isOdd(order []int) bool {
	odd := false
	for i, place := range order {
		for _, later := range order[i+1:] {
			odd = odd != (later < place)
		}
	}
	return odd
}
