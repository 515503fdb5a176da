package mat_test

import (
	"fmt"
	"iter"
	"slices"
	"sync"
	"testing"

	"trellis/api"
	"trellis/check"
	"trellis/mat"
)

// told is the matrix of the rows that are told, with its places asked for on the way.
func told(t *testing.T, call string, lines iter.Seq2[int, []api.Int], cols int) api.Mat {
	t.Helper()
	a := api.Mat{Cols: cols}
	for i, row := range lines {
		check.Same(t, call+": place", i, a.Rows)
		check.Same(t, call+": length", len(row), cols)
		a.Rows++
		a.At = append(a.At, row...)
	}
	return a
}

// firstRows are the places of the rows that are told to one that stops after some of them.
func firstRows(lines iter.Seq2[int, []api.Int], stopAfter int) (places []int) {
	lines(func(i int, row []api.Int) bool {
		places = append(places, i)
		return len(places) < stopAfter
	})
	return places
}

// P9.5.
func TestLines(t *testing.T) {
	for _, c := range []struct{ a, want api.Mat }{
		{mx("1 2; 3 4; 5 6"), mx("1 2; 3 4; 5 6")},
		{mx("1 2 3"), mx("1 2 3")},
		{mx("1; 2; 3"), mx("1; 2; 3")},
		{mx("0x0"), mx("0x0")},
		{mx("0x3"), mx("0x3")},
		{mx("3x0"), mx("3x0")},
		{mx("64x0"), mx("64x0")},
		{of(2, 2, minus(0), plus(3, 0), minus(0, 1, 0), num(4)), of(2, 2, num(0), num(3), minus(0, 1), num(4))},
		{full(64, 64, plus(8, 0)), full(64, 64, num(8))},
	} {
		lines := mat.Lines(c.a)
		for range 3 {
			check.Mat(t, fmt.Sprintf("Lines(%v)", c.a), told(t, fmt.Sprintf("Lines(%v)", c.a), lines, c.a.Cols), c.want)
		}
	}
}

// P9.1.
func TestLinesOfUnsound(t *testing.T) {
	for _, a := range check.Unsound() {
		for i := range mat.Lines(a) {
			t.Errorf("Lines of %d by %d with %d entries tells row %d", a.Rows, a.Cols, len(a.At), i)
		}
	}
}

// P9.5: it stops with the one that goes over it, and begins anew with the next one.
func TestLinesStop(t *testing.T) {
	for _, a := range []api.Mat{mx("1 2; 3 4; 5 6"), mx("3x0")} {
		lines := mat.Lines(a)
		for _, stopAfter := range []int{1, 2, 3, 1, 9} {
			want := upTo(min(stopAfter, 3))
			if got := firstRows(lines, stopAfter); !slices.Equal(got, want) {
				t.Errorf("Lines(%v), stopped after %d: rows %v, want %v", a, stopAfter, got, want)
			}
		}
	}
}

// P9.5: one goes over it within another, each from the beginning.
func TestLinesNested(t *testing.T) {
	a := mx("1 2; 3 4; 5 6")
	lines := mat.Lines(a)
	n := 0
	for i, outer := range lines {
		check.Ints(t, fmt.Sprintf("row %d outside", i), outer, a.At[2*i:2*i+2])
		check.Mat(t, "all rows inside", told(t, "inside", lines, 2), a)
		n++
	}
	check.Same(t, "rows outside", n, 3)
	next, stop := iter.Pull2(lines)
	defer stop()
	other, stopOther := iter.Pull2(lines)
	defer stopOther()
	for i := range 3 {
		for name, pull := range map[string]func() (int, []api.Int, bool){"one": next, "other": other} {
			place, row, ok := pull()
			check.Same(t, name+" by turns: is there a row", ok, true)
			check.Same(t, name+" by turns: place", place, i)
			check.Ints(t, name+" by turns", row, a.At[2*i:2*i+2])
		}
	}
}

// P9.5: several go over it at a time, and write into the rows they are told.
func TestLinesAtATime(t *testing.T) {
	a := check.Filled(40, 7, check.Integers())
	want, _ := mat.Least(a)
	lines := mat.Lines(a)
	answers := make([]api.Mat, 8)
	var all sync.WaitGroup
	for w := range answers {
		all.Go(func() {
			for range 5 {
				answers[w] = api.Mat{Cols: 7}
				for _, row := range lines {
					answers[w].Rows++
					answers[w].At = append(answers[w].At, inLeastForm(row)...)
					check.Spoil(row)
				}
			}
		})
	}
	all.Wait()
	for w, got := range answers {
		check.Mat(t, fmt.Sprintf("rows of worker %d", w), got, want)
	}
}

// P9.5, R6: what becomes of the matrix after the call changes nothing, be it ahead of the first row or between two.
func TestLinesHangOnTheCall(t *testing.T) {
	fresh := func() api.Mat { return of(3, 2, num(1), plus(2, 0), minus(3), num(4), minus(0), plus(5, 6)) }
	want, _ := mat.Least(fresh())
	a := fresh()
	lines := mat.Lines(a)
	check.Spoil(a.At)
	check.Mat(t, "changed ahead of the first row", told(t, "changed ahead of the first row", lines, 2), want)
	a = fresh()
	lines = mat.Lines(a)
	var got []api.Int
	for _, row := range lines {
		got = append(got, row...)
		check.Spoil(a.At)
	}
	check.Ints(t, "changed between two rows", got, want.At)
	check.Mat(t, "changed, and gone over again", told(t, "changed, and gone over again", lines, 2), want)
}

// R4: a row that is told is new memory: who writes into it changes neither the matrix, nor another row, nor what is told again.
func TestLinesOwnRows(t *testing.T) {
	a := check.Filled(5, 3, check.Integers())
	start, _ := mat.Least(a)
	lines := mat.Lines(a)
	for range 3 {
		i := 0
		for _, row := range lines {
			check.Ints(t, fmt.Sprintf("row %d", i), row, start.At[3*i:3*i+3])
			check.Spoil(row)
			i++
		}
		check.Same(t, "rows", i, 5)
	}
	same, _ := mat.Equal(a, start)
	check.Same(t, "is the matrix still the same", same, true)
	var kept [][]api.Int
	for _, row := range lines {
		kept = append(kept, row)
	}
	for i, row := range kept {
		check.Ints(t, fmt.Sprintf("row %d, kept", i), row, start.At[3*i:3*i+3])
		check.Spoil(row)
	}
}
