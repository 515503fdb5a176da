package check

import (
	"math"
	"math/bits"
	"slices"
	"strconv"
	"strings"

	"trellis/api"
)

// Matrix is the matrix that a text writes: its rows with ; between, or as 0x3 the shape of one without entries.
func Matrix(text string) api.Mat {
	if rows, cols, ok := strings.Cut(text, "x"); ok {
		return api.Mat{Rows: number(rows), Cols: number(cols)}
	}
	var a api.Mat
	for row := range strings.SplitSeq(text, ";") {
		a.Rows++
		a.At = append(a.At, Row(row)...)
	}
	a.Cols = len(a.At) / a.Rows
	return a
}

// Row is the list of integers that a text writes, with blanks between.
func Row(text string) []api.Int {
	var all []api.Int
	for word := range strings.FieldsSeq(text) {
		all = append(all, Num(number(word)))
	}
	return all
}

// number is what a test wrote: a text that is none is a fault of the test.
func number(text string) int {
	n, err := strconv.Atoi(text)
	if err != nil {
		panic(err)
	}
	return n
}

// Filled is the matrix of this shape whose entries are taken from a list, which begins anew where it ends.
func Filled(rows, cols int, list []api.Int) api.Mat {
	a := api.Mat{Rows: rows, Cols: cols}
	for i := range rows * cols {
		a.At = append(a.At, list[i%len(list)])
	}
	return a
}

// Unsound are matrices that go beyond each bound alone, or have entries that do not go with their shape; of some the product of rows and columns wraps to the number of the entries.
func Unsound() []api.Mat {
	const half = 1 << (bits.UintSize / 2)
	var all []api.Mat
	for _, shape := range [][3]int{
		{-1, 0, 0}, {0, -1, 0}, {-1, -1, 1}, {-2, -2, 4}, {-1, 65, 0}, {65, -1, 0}, {-3, 0, 0}, {0, -3, 0},
		{65, 0, 0}, {0, 65, 0}, {65, 1, 65}, {1, 65, 65}, {65, 65, 65 * 65}, {128, 2, 256},
		{1, 2, 3}, {1, 2, 1}, {2, 2, 3}, {1, 1, 0}, {0, 0, 1}, {0, 3, 3}, {3, 0, 3}, {64, 64, 2}, {2, 1, 1}, {1, -1, 1}, {-1, 1, 1},
		{math.MinInt, 0, 0}, {0, math.MinInt, 0}, {math.MaxInt, 0, 0}, {0, math.MaxInt, 0}, {math.MinInt, math.MinInt, 0}, {math.MinInt, 2, 0},
		{math.MaxInt, math.MaxInt, 1}, {half, half, 0}, {math.MaxInt, 2, 0},
	} {
		all = append(all, api.Mat{Rows: shape[0], Cols: shape[1], At: Filled(1, shape[2], Nums(1, 2, 3, 4)).At})
	}
	return all
}

// Mat holds the matrix that a call answers against the one that it must answer: the shape, and each entry in least form.
func Mat(t Reporter, call string, got, want api.Mat) {
	t.Helper()
	if got.Rows != want.Rows || got.Cols != want.Cols || !sameInts(got.At, want.At) {
		t.Errorf("%s: %v, want %v", call, got, want)
	}
}

// MatMemory holds calls on two matrices that answer integers, by their names, against R4 as ListMemory does, at each pair of the matrices.
func MatMemory(t Reporter, calls map[string]func(a, b api.Mat) []api.Int, matrices []api.Mat) {
	t.Helper()
	for _, a := range matrices {
		for _, b := range matrices {
			// The entries of b stand in the spare room of a's.
			whole := slices.Concat(a.At, b.At)
			ofEntries := map[string]func(list []api.Int) []api.Int{}
			for name, call := range calls {
				ofEntries[name] = func(list []api.Int) []api.Int {
					first := api.Mat{Rows: a.Rows, Cols: a.Cols, At: list[:len(a.At)]}
					second := api.Mat{Rows: b.Rows, Cols: b.Cols, At: list[len(a.At):]}
					return call(first, second)
				}
			}
			ListMemory(t, ofEntries, [][]api.Int{whole})
		}
	}
}
