package bareiss_test

import (
	"slices"
	"testing"

	"trellis/api"
	"trellis/bareiss"
	"trellis/check"
	"trellis/made"
)

// R4: what is handed in stays as it is, spare room included, and an answer has memory of its own, its spare room too.
func TestMemory(t *testing.T) {
	calls := map[string]func(a, b api.Mat) []api.Int{}
	for name, call := range takers() {
		calls[name] = func(a, b api.Mat) []api.Int {
			got, _ := call(a)
			return got
		}
		calls[name+" of what is not sound"] = func(a, b api.Mat) []api.Int {
			a.Rows++
			a.Cols++
			got, _ := call(a)
			return got
		}
	}
	check.MatMemory(t, calls, made.Samples())
}

// R4: the integers of an answer have memory of their own where a row that is handed in is left as it is.
func TestMemoryOfSingle(t *testing.T) {
	a := api.Mat{Rows: 1, Cols: 1, At: check.Roomy([]api.Int{minus(5, 6)})}
	d, _ := bareiss.Det(a)
	_, _, core, _ := bareiss.Core(a)
	list, _ := bareiss.Leading(a)
	check.Apart(t, "a matrix and what is answered", a.At[0].Mag, d.Mag, core.Mag, list[0].Mag, list[1].Mag)
}

// scribble writes over a list of places, spare room included.
func scribble(places []int) {
	places = places[:cap(places)]
	for i := range places {
		places[i] = -7
	}
}

// R4: lists of places have memory of their own, the two of Core too.
func TestMemoryOfPlaces(t *testing.T) {
	for _, a := range made.Samples() {
		for _, call := range []func(a api.Mat) ([]int, api.Errno){bareiss.Pivots, bareiss.RowSet} {
			one, _ := call(a)
			other, _ := call(a)
			want := slices.Clone(one)
			scribble(one)
			holdPlaces(t, of("another answer", a), other, want)
		}
		rows, cols, _, _ := bareiss.Core(a)
		otherRows, otherCols, _, _ := bareiss.Core(a)
		wantRows, wantCols := slices.Clone(rows), slices.Clone(cols)
		scribble(rows)
		holdPlaces(t, of("Core's columns, beside its rows", a), cols, wantCols)
		scribble(cols)
		holdPlaces(t, of("Core's rows, another time", a), otherRows, wantRows)
		holdPlaces(t, of("Core's columns, another time", a), otherCols, wantCols)
	}
}

// R4: entries that have the same words.
func TestOverlap(t *testing.T) {
	words := []uint64{1, 0, 2, 3, 0}
	ints := []api.Int{plus(words[:1]...), minus(words[1:3]...), plus(words[2:3]...), minus(words[3:]...)}
	a := api.Mat{Rows: 2, Cols: 2, At: ints}
	// 1 times -3, less 2 times -2^65.
	holdLeading(t, a, []api.Int{num(1), num(1), plus(check.Top-2, 3)})
	holdCore(t, a, first(2), first(2), plus(check.Top-2, 3))
	check.Words(t, "what was handed in", words, []uint64{1, 0, 2, 3, 0})
}
