package bareiss

import (
	"slices"

	"trellis/api"
	"trellis/mat"
	"trellis/zint"
)

// stairs are those rows of a matrix, taken from the top down, that are no combination of the rows above them: their numbers, and what elimination has left of them.
// What is left of the row kept as number k has in column j the determinant at the kept rows 0 to k and the columns cols[0], .., cols[k-1], j. The first column in which that is not 0 is cols[k]: so no two rows begin in the same column, and the columns in which they begin are the pivot columns of the rows taken so far.
type stairs struct {
	rows, cols []int
	lines      [][]api.Int
	// odd says if an odd number of pairs of cols stands the wrong way round.
	odd bool
}

// stairsOf are those of all rows of a, which is sound.
func stairsOf(a api.Mat) *stairs {
	s := &stairs{}
	for i, line := range mat.Lines(a) {
		s.climb(i, line)
	}
	return s
}

// climb takes the next row, by its number and its line, which becomes the stairs' own.
func (s *stairs) climb(row int, line []api.Int) {
	s.eliminate(line)
	col := slices.IndexFunc(line, func(n api.Int) bool { return zint.Sign(n) != 0 })
	if col < 0 {
		return
	}
	for _, other := range s.cols {
		if other > col {
			s.odd = !s.odd
		}
	}
	s.rows = append(s.rows, row)
	s.cols = append(s.cols, col)
	s.lines = append(s.lines, line)
}

// eliminate leaves of a line what the kept rows leave of it.
func (s *stairs) eliminate(line []api.Int) {
	before := zint.Of(1)
	for k, c := range s.cols {
		pivot, times := s.lines[k][c], line[c]
		for j, n := range s.lines[k] {
			crossed := zint.Sub(zint.Mul(pivot, line[j]), zint.Mul(times, n))
			// Of determinants that have all rows and columns but one in common, this is the pivot before times the next determinant: so it leaves no rest; and no pivot is 0. So there is no error.
			line[j], _ = zint.Exact(crossed, before)
		}
		before = pivot
	}
}

// det is the determinant at the kept rows and the columns in which they begin, both rising, as a number of its own.
func (s *stairs) det() api.Int {
	if len(s.rows) == 0 {
		return zint.Of(1)
	}
	last := len(s.rows) - 1
	pivot := s.lines[last][s.cols[last]]
	// The last pivot has the columns in the order of the rows.
	if s.odd {
		return zint.Neg(pivot)
	}
	return zint.Least(pivot)
}

// leading is the determinant of the first k rows and columns, where k rows have been taken.
func (s *stairs) leading(k int) api.Int {
	// It is 0 unless k rows were kept, and k of the first k columns are pivot columns.
	if len(s.rows) < k || slices.ContainsFunc(s.cols, func(col int) bool { return col >= k }) {
		return api.Int{}
	}
	return s.det()
}
