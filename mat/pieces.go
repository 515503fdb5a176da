package mat

import (
	"slices"

	"trellis/api"
	"trellis/zint"
)

// Pick: the matrix of these rows and these columns of a.
func Pick(a api.Mat, rows, cols []int) (api.Mat, api.Errno) {
	if e := Check(a); e != api.OK {
		return api.Mat{}, e
	}
	if !areBelow(rows, a.Rows) || !areBelow(cols, a.Cols) {
		return api.Mat{}, api.ErrArg
	}
	if !isShape(len(rows), len(cols)) {
		return api.Mat{}, api.ErrLarge
	}
	all := rowsOf(a)
	picked := each(rows, func(i int) []api.Int {
		return each(cols, func(j int) api.Int { return zint.Least(all[i][j]) })
	})
	return ofRows(picked, len(cols)), api.OK
}

// Stack: all, one below the other.
func Stack(list ...api.Mat) (api.Mat, api.Errno) {
	if e := checkAll(list...); e != api.OK {
		return api.Mat{}, e
	}
	whole, e := stacked(list)
	return least(whole), e
}

// Beside: all, one beside the other.
func Beside(list ...api.Mat) (api.Mat, api.Errno) {
	if e := checkAll(list...); e != api.OK {
		return api.Mat{}, e
	}
	// What stands beside each other stands below each other when it is turned.
	whole, e := stacked(each(list, turned))
	return least(turned(whole)), e
}

// Kron: the product of all places of a with all of b.
func Kron(a, b api.Mat) (api.Mat, api.Errno) {
	if e := checkAll(a, b); e != api.OK {
		return api.Mat{}, e
	}
	if !isShape(a.Rows*b.Rows, a.Cols*b.Cols) {
		return api.Mat{}, api.ErrLarge
	}
	var rows [][]api.Int
	for _, x := range rowsOf(a) {
		for _, y := range rowsOf(b) {
			pieces := each(x, func(k api.Int) []api.Int { return scaled(k, y) })
			rows = append(rows, slices.Concat(pieces...))
		}
	}
	return ofRows(rows, a.Cols*b.Cols), api.OK
}

// areBelow says if all places are at least 0 and below the bound.
func areBelow(places []int, bound int) bool {
	return !slices.ContainsFunc(places, func(i int) bool { return i < 0 || i >= bound })
}

// stacked is all of the list, which are sound, one below the other, the numbers still in their memory.
func stacked(list []api.Mat) (api.Mat, api.Errno) {
	if len(list) == 0 {
		return api.Mat{}, api.OK
	}
	cols := list[0].Cols
	if slices.ContainsFunc(list, func(a api.Mat) bool { return a.Cols != cols }) {
		return api.Mat{}, api.ErrFit
	}
	var rows [][]api.Int
	for _, a := range list {
		rows = append(rows, rowsOf(a)...)
		if len(rows) > api.MaxDim {
			return api.Mat{}, api.ErrLarge
		}
	}
	return ofRows(rows, cols), api.OK
}
