package bareiss_test

import (
	"slices"
	"testing"

	"trellis/api"
	"trellis/bareiss"
	"trellis/check"
)

// numbers are in least form and in no least form, 0 and -1 and long ones among them.
func numbers() []api.Int {
	return []api.Int{num(1), minus(0, 0), plus(6, 0), num(-1), num(0), minus(0, 1), plus(append(check.Mixed(5, 4), 0)...)}
}

// samples are matrices of all ranks, shapes that are not square among them.
func samples() []api.Mat {
	return []api.Mat{
		mx("0x0"), mx("0x2"), mx("2x0"), mx("1"), mx("0"), mx("-7"), mx("0 1; 1 0"), mx("1 0; 0 1"), mx("1 2; 2 4"), mx("0 0; 0 0"), mx("0 0 2; 0 3 0; 5 0 0"),
		check.Filled(2, 2, numbers()), check.Filled(3, 3, numbers()), check.Filled(3, 2, numbers()[2:]), check.Filled(1, 7, numbers()), check.Filled(7, 1, numbers()), check.Filled(5, 5, numbers()),
	}
}

// R4: what is handed in stays as it is, spare room included, and an answer has memory of its own, its spare room too.
func TestMemory(t *testing.T) {
	calls := map[string]func(a, b api.Mat) []api.Int{}
	for name, call := range takers() {
		calls[name] = func(a, b api.Mat) []api.Int {
			got, _ := call(a)
			return got
		}
		calls[name+" of what is not sound"] = func(a, b api.Mat) []api.Int {
			a.Rows++
			a.Cols++
			got, _ := call(a)
			return got
		}
	}
	check.MatMemory(t, calls, samples())
}

// R4: the integers of an answer have memory of their own where a row that is handed in is left as it is.
func TestMemoryOfSingle(t *testing.T) {
	a := api.Mat{Rows: 1, Cols: 1, At: check.Roomy([]api.Int{minus(5, 6)})}
	d, _ := bareiss.Det(a)
	_, _, core, _ := bareiss.Core(a)
	list, _ := bareiss.Leading(a)
	check.Apart(t, "a matrix and what is answered", a.At[0].Mag, d.Mag, core.Mag, list[0].Mag, list[1].Mag)
}

// scribble writes over a list of places, spare room included.
func scribble(places []int) {
	places = places[:cap(places)]
	for i := range places {
		places[i] = -7
	}
}

// R4: lists of places have memory of their own, the two of Core too.
func TestMemoryOfPlaces(t *testing.T) {
	for _, a := range samples() {
		for _, call := range []func(a api.Mat) ([]int, api.Errno){bareiss.Pivots, bareiss.RowSet} {
			one, _ := call(a)
			other, _ := call(a)
			want := slices.Clone(one)
			scribble(one)
			holdPlaces(t, of("another answer", a), other, want)
		}
		rows, cols, _, _ := bareiss.Core(a)
		otherRows, otherCols, _, _ := bareiss.Core(a)
		wantRows, wantCols := slices.Clone(rows), slices.Clone(cols)
		scribble(rows)
		holdPlaces(t, of("Core's columns, beside its rows", a), cols, wantCols)
		scribble(cols)
		holdPlaces(t, of("Core's rows, another time", a), otherRows, wantRows)
		holdPlaces(t, of("Core's columns, another time", a), otherCols, wantCols)
	}
}

// R4: entries that have the same words.
func TestOverlap(t *testing.T) {
	words := []uint64{1, 0, 2, 3, 0}
	ints := []api.Int{plus(words[:1]...), minus(words[1:3]...), plus(words[2:3]...), minus(words[3:]...)}
	a := api.Mat{Rows: 2, Cols: 2, At: ints}
	// 1 times -3, less 2 times -2^65.
	holdLeading(t, a, []api.Int{num(1), num(1), plus(check.Top-2, 3)})
	holdCore(t, a, first(2), first(2), plus(check.Top-2, 3))
	check.Words(t, "what was handed in", words, []uint64{1, 0, 2, 3, 0})
}
