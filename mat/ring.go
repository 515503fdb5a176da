package mat

import (
	"trellis/api"
	"trellis/zint"
)

// Add: a + b.
func Add(a, b api.Mat) (api.Mat, api.Errno) {
	return placeByPlace(a, b, zint.Add)
}

// Sub: a - b.
func Sub(a, b api.Mat) (api.Mat, api.Errno) {
	return placeByPlace(a, b, zint.Sub)
}

// Scale: k times a.
func Scale(k api.Int, a api.Mat) (api.Mat, api.Errno) {
	if e := Check(a); e != api.OK {
		return api.Mat{}, e
	}
	return api.Mat{Rows: a.Rows, Cols: a.Cols, At: scaled(k, a.At)}, api.OK
}

// Mul: a times b.
func Mul(a, b api.Mat) (api.Mat, api.Errno) {
	if e := checkAll(a, b); e != api.OK {
		return api.Mat{}, e
	}
	if a.Cols != b.Rows {
		return api.Mat{}, api.ErrFit
	}
	return product(a, b), api.OK
}

// VecMul: the row x times a.
func VecMul(x []api.Int, a api.Mat) ([]api.Int, api.Errno) {
	if e := Check(a); e != api.OK {
		return nil, e
	}
	if len(x) != a.Rows {
		return nil, api.ErrFit
	}
	return dots(x, columnsOf(a)), api.OK
}

// Pow: a to the power n.
func Pow(a api.Mat, n int) (api.Mat, api.Errno) {
	if e := checkSquare(a); e != api.OK {
		return api.Mat{}, e
	}
	if n < 0 {
		return api.Mat{}, api.ErrArg
	}
	if n > api.MaxPow {
		return api.Mat{}, api.ErrLarge
	}
	return power(a, n), api.OK
}

// Turn: the transpose of a.
func Turn(a api.Mat) (api.Mat, api.Errno) {
	if e := Check(a); e != api.OK {
		return api.Mat{}, e
	}
	return least(turned(a)), api.OK
}

// Trace: the sum of the diagonal.
func Trace(a api.Mat) (api.Int, api.Errno) {
	if e := checkSquare(a); e != api.OK {
		return api.Int{}, e
	}
	var diagonal []api.Int
	for i, row := range rowsOf(a) {
		diagonal = append(diagonal, row[i])
	}
	return zint.Sum(diagonal...), api.OK
}

// checkSquare: OK, if a is sound and has as many rows as columns.
func checkSquare(a api.Mat) api.Errno {
	if e := Check(a); e != api.OK {
		return e
	}
	if a.Rows != a.Cols {
		return api.ErrFit
	}
	return api.OK
}

// placeByPlace is the matrix of what reckon makes of the entries at the same places.
func placeByPlace(a, b api.Mat, reckon func(x, y api.Int) api.Int) (api.Mat, api.Errno) {
	if e := checkAll(a, b); e != api.OK {
		return api.Mat{}, e
	}
	if !sameShape(a, b) {
		return api.Mat{}, api.ErrFit
	}
	at := make([]api.Int, len(a.At))
	for i := range at {
		at[i] = reckon(a.At[i], b.At[i])
	}
	return api.Mat{Rows: a.Rows, Cols: a.Cols, At: at}, api.OK
}

// scaled is k times each number of the list.
func scaled(k api.Int, list []api.Int) []api.Int {
	return each(list, func(n api.Int) api.Int { return zint.Mul(k, n) })
}

// product is a times b, which are sound and go together.
func product(a, b api.Mat) api.Mat {
	columns := columnsOf(b)
	rows := each(rowsOf(a), func(row []api.Int) []api.Int { return dots(row, columns) })
	return ofRows(rows, b.Cols)
}

// dots is the row x times each of the columns, which are as long as it.
func dots(x []api.Int, columns [][]api.Int) []api.Int {
	return each(columns, func(column []api.Int) api.Int {
		// The lengths are the same, so there is no error.
		dot, _ := zint.Dot(x, column)
		return dot
	})
}

// power is a to the power n, by squares: a is sound and square, n at least 0.
func power(a api.Mat, n int) api.Mat {
	switch n {
	case 0:
		// A size that a sound matrix has is no error.
		unit, _ := Unit(a.Rows)
		return unit
	case 1:
		return least(a)
	}
	half := power(a, n/2)
	whole := product(half, half)
	if n%2 == 1 {
		whole = product(whole, a)
	}
	return whole
}

// turned is the transpose of a, its numbers still in a's memory.
func turned(a api.Mat) api.Mat {
	return ofRows(columnsOf(a), a.Rows)
}
