package hnf_test

import (
	"fmt"
	"slices"
	"testing"

	"trellis/api"
	"trellis/check"
	"trellis/hnf"
	"trellis/made"
	"trellis/mat"
	"trellis/zint"
)

// P18.1 to P18.3 at all matrices of little shapes, or every so-manieth.
func TestAllSmall(t *testing.T) {
	for _, c := range []struct {
		rows, cols, step int
		entries          []int
	}{
		{1, 1, 1, []int{-4, -3, -2, -1, 0, 1, 2, 3, 4}}, {1, 2, 1, []int{-3, -1, 0, 1, 2}}, {2, 1, 1, []int{-6, -4, -3, -1, 0, 1, 2, 3, 6}}, {3, 1, 1, []int{-6, -4, 0, 1, 3, 10}}, {4, 1, 1, []int{-4, 0, 6, 9}},
		{2, 2, 1, []int{-3, -2, -1, 0, 1, 2, 4}}, {2, 3, 7, []int{-2, -1, 0, 1, 3}}, {3, 2, 7, []int{-2, 0, 1, 3, 4}}, {3, 2, 11, []int{-6, 0, 4, 9, 10}}, {2, 4, 61, []int{-2, 0, 1, 3}}, {4, 2, 61, []int{-2, 0, 3, 4}},
		{3, 3, 101, []int{-1, 0, 1, 2}}, {3, 3, 1009, []int{-6, -2, 0, 3, 4}}, {3, 4, 500, []int{0, 1, -2}}, {4, 3, 500, []int{0, 2, -3}}, {4, 4, 60013, []int{0, 2, -3}}, {4, 4, 97, []int{0, 1}}, {5, 3, 40, []int{0, 2}},
	} {
		for small := range made.SomeSmall(c.rows, c.cols, c.step, c.entries) {
			holdAll(t, small.Matrix(c.cols))
		}
	}
}

// besideUnit is the matrix with the unit matrix at its right.
func besideUnit(a api.Mat) api.Mat {
	wide, _ := mat.Beside(a, unitOf(a.Rows))
	return wide
}

// holdAll holds the calls on one matrix.
func holdAll(t *testing.T, a api.Mat) {
	t.Helper()
	full := holdFull(t, a)
	holdForm(t, a, full.H)
	// As the chapter says which U it is.
	wide, _ := mat.Beside(full.H, full.U)
	holdForm(t, besideUnit(a), wide)
	// There is just one form: what is in it is its own.
	same, _ := mat.Equal(a, full.H)
	check.Same(t, of("in Hermite form by the words", a), isHermite(a), same)
	holdIsForm(t, a, same)
	if !same {
		holdRefusals(t, formsOnly(), a, api.ErrForm)
	}
}

// smallForms are those of all little matrices that are in Hermite form.
func smallForms(rows, cols int, entries []int) []api.Mat {
	var all []api.Mat
	for small := range made.AllSmall(rows, cols, entries) {
		if h := small.Matrix(cols); isHermite(h) {
			all = append(all, h)
		}
	}
	return all
}

// P18.4 and P18.5 at all little forms and all little rows.
func TestAllSmallForms(t *testing.T) {
	for _, c := range []struct {
		rows, cols    int
		entries, list []int
	}{
		{0, 2, nil, []int{-1, 0, 2}}, {1, 1, []int{0, 1, 2, 5}, []int{-7, -5, -4, -1, 0, 1, 2, 3, 5, 12}}, {2, 1, []int{0, 1, 6}, []int{-9, -2, 0, 4, 6}}, {1, 3, []int{-2, 0, 1, 3}, []int{-4, 0, 3, 5}},
		{2, 2, []int{-1, 0, 1, 2, 3, 4}, []int{-5, -2, 0, 1, 3, 6}}, {3, 2, []int{0, 1, 2}, []int{-3, 0, 1, 2}}, {2, 3, []int{-1, 0, 2, 3}, []int{-3, 0, 1, 4}}, {3, 3, []int{0, 1, 2}, []int{-3, 0, 2}},
	} {
		forms := smallForms(c.rows, c.cols, c.entries)
		check.Same(t, "is there a form", len(forms) > 0, true)
		for _, h := range forms {
			for small := range made.AllSmall(1, c.cols, c.list) {
				v := small.Matrix(c.cols).At
				holdRest(t, h, v)
				holdInserted(t, h, v)
			}
		}
	}
}

// holdRest asks for all that the document says of Reduce: there is just one such rest, and as h's rows that are not zero hang on no others, just one such list of multiples.
func holdRest(t *testing.T, h api.Mat, v []api.Int) {
	t.Helper()
	call := of("Reduce", h) + fmt.Sprint(v)
	rest, c, e := hnf.Reduce(h, v)
	check.Same(t, call, e, api.OK)
	holdLeast(t, call+", rest", api.Mat{Rows: 1, Cols: len(rest), At: rest}, 1, h.Cols)
	holdLeast(t, call+", multiples", api.Mat{Rows: 1, Cols: len(c), At: c}, 1, h.Rows)
	if t.Failed() {
		// Lists of other lengths can't be looked at.
		t.FailNow()
	}
	check.Same(t, call+": is it reduced", isReduced(api.Mat{Rows: 1, Cols: h.Cols, At: rest}, h), true)
	check.Ints(t, call+": at the zero rows", c[rankOf(h):], make([]api.Int, h.Rows-rankOf(h)))
	sum, _ := mat.VecMul(c, h)
	for i, n := range sum {
		check.Int(t, call+": multiples and rest", zint.Add(n, rest[i]), zint.Least(v[i]))
	}
	holdReduce(t, h, rest, rest, make([]api.Int, h.Rows))
}

// holdInserted asks for the Hermite basis of all rows together.
func holdInserted(t *testing.T, h api.Mat, v []api.Int) {
	t.Helper()
	all := api.Mat{Rows: h.Rows + 1, Cols: h.Cols, At: slices.Concat(h.At, v)}
	full := holdFull(t, all)
	holdInsert(t, h, v, rowsFrom(full.H, 0, rankOf(full.H)))
}
