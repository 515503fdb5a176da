package check

import (
	"slices"
	"strconv"
	"strings"

	"trellis/api"
)

// Matrix is the matrix that a text writes: its rows with ; between, or as 0x3 the shape of one without entries.
func Matrix(text string) api.Mat {
	if rows, cols, ok := strings.Cut(text, "x"); ok {
		return api.Mat{Rows: number(rows), Cols: number(cols)}
	}
	var a api.Mat
	for row := range strings.SplitSeq(text, ";") {
		a.Rows++
		a.At = append(a.At, Row(row)...)
	}
	a.Cols = len(a.At) / a.Rows
	return a
}

// Row is the list of integers that a text writes, with blanks between.
func Row(text string) []api.Int {
	var all []api.Int
	for word := range strings.FieldsSeq(text) {
		all = append(all, Num(number(word)))
	}
	return all
}

// number is what a test wrote: a text that is none is a fault of the test.
func number(text string) int {
	n, err := strconv.Atoi(text)
	if err != nil {
		panic(err)
	}
	return n
}

// Filled is the matrix of this shape whose entries are taken from a list, which begins anew where it ends.
func Filled(rows, cols int, list []api.Int) api.Mat {
	a := api.Mat{Rows: rows, Cols: cols}
	for i := range rows * cols {
		a.At = append(a.At, list[i%len(list)])
	}
	return a
}

// Mat holds the matrix that a call answers against the one that it must answer: the shape, and each entry in least form.
func Mat(t Reporter, call string, got, want api.Mat) {
	t.Helper()
	if got.Rows != want.Rows || got.Cols != want.Cols || !sameInts(got.At, want.At) {
		t.Errorf("%s: %v, want %v", call, got, want)
	}
}

// MatMemory holds calls on two matrices that answer integers, by their names, against R4 as ListMemory does, at each pair of the matrices.
func MatMemory(t Reporter, calls map[string]func(a, b api.Mat) []api.Int, matrices []api.Mat) {
	t.Helper()
	for _, a := range matrices {
		for _, b := range matrices {
			// The entries of b stand in the spare room of a's.
			whole := slices.Concat(a.At, b.At)
			ofEntries := map[string]func(list []api.Int) []api.Int{}
			for name, call := range calls {
				ofEntries[name] = func(list []api.Int) []api.Int {
					first := api.Mat{Rows: a.Rows, Cols: a.Cols, At: list[:len(a.At)]}
					second := api.Mat{Rows: b.Rows, Cols: b.Cols, At: list[len(a.At):]}
					return call(first, second)
				}
			}
			ListMemory(t, ofEntries, [][]api.Int{whole})
		}
	}
}
