package mat

import (
	"iter"
	"slices"

	"trellis/api"
	"trellis/zint"
)

// Lines: the rows of a with their places, the first one first.
func Lines(a api.Mat) iter.Seq2[int, []api.Int] {
	// Copied at the call, so that it tells a as it stands now. Of a matrix that is not sound this one has no rows.
	kept, _ := Least(a)
	return func(yield func(int, []api.Int) bool) {
		for i, row := range rowsOf(kept) {
			// Copied again, so that no one who goes over it can change what the next one is told.
			if !yield(i, each(row, zint.Least)) {
				return
			}
		}
	}
}

// each is the list of what change makes of the items of a list: of numbers, of rows, of places, of matrices.
func each[From, To any](list []From, change func(From) To) []To {
	changed := make([]To, len(list))
	for i, item := range list {
		changed[i] = change(item)
	}
	return changed
}

// rowsOf are the rows of a, in a's own memory.
func rowsOf(a api.Mat) [][]api.Int {
	rows := make([][]api.Int, a.Rows)
	for i := range rows {
		rows[i] = a.At[i*a.Cols : (i+1)*a.Cols]
	}
	return rows
}

// columnsOf are the columns of a, lists of their own whose numbers have a's memory.
func columnsOf(a api.Mat) [][]api.Int {
	columns := make([][]api.Int, a.Cols)
	for _, row := range rowsOf(a) {
		for j, n := range row {
			columns[j] = append(columns[j], n)
		}
	}
	return columns
}

// ofRows is the matrix of these rows; how many columns it has, no rows would not tell.
func ofRows(rows [][]api.Int, cols int) api.Mat {
	return api.Mat{Rows: len(rows), Cols: cols, At: slices.Concat(rows...)}
}
