package syntax

import (
	"slices"

	"trellis/api"
	"trellis/mat"
	"trellis/zint"
)

// onlyMatrix is the matrix that the whole line writes.
func (r *reader) onlyMatrix() api.Mat {
	a := r.matrix()
	r.end()
	return a
}

// onlyComplex are the facets of the complex that the whole line writes.
func (r *reader) onlyComplex() [][]api.Int {
	facets := r.complex()
	r.end()
	return facets
}

// matrix tells of rows that do not fit, and of a shape beyond the limit, only when all of it is taken: what cannot stand in it comes first.
func (r *reader) matrix() api.Mat {
	col := r.take("[")
	inside := r.rows
	if r.next().Kind == api.Number && r.tokens[1].Text == ":" {
		inside = r.shape
	}
	a, e := inside()
	if e == api.ErrArg { // so mat tells of a shape beyond the limit
		e = api.ErrLarge
	}
	if e != api.OK {
		giveUp(col, e)
	}
	return a
}

// shape takes the rest of a zero matrix that is told by its shape.
func (r *reader) shape() (api.Mat, api.Errno) {
	rows := r.number()
	r.take(":")
	cols := r.number()
	r.take("]")
	return mat.Zero(dimension(rows), dimension(cols))
}

// dimension is a number as that of rows or of columns. One that is no int is as good as any other beyond the limit.
func dimension(n api.Int) int {
	count, e := zint.Small(n)
	if e != api.OK {
		return api.MaxDim + 1
	}
	return int(count)
}

// rows takes the rest of a matrix that is told row by row.
func (r *reader) rows() (api.Mat, api.Errno) {
	rows := [][]api.Int{r.row()}
	for r.takeIf(";") {
		rows = append(rows, r.row())
	}
	r.take("]")
	for _, row := range rows {
		if len(row) != len(rows[0]) {
			return api.Mat{}, api.ErrFit
		}
	}
	return mat.Make(len(rows), len(rows[0]), slices.Concat(rows...))
}

func (r *reader) row() []api.Int {
	row := []api.Int{r.entry()}
	for r.comes("-") || r.next().Kind == api.Number {
		row = append(row, r.entry())
	}
	return row
}

func (r *reader) entry() api.Int {
	if r.takeIf("-") {
		return zint.Neg(r.number())
	}
	return r.number()
}

func (r *reader) complex() [][]api.Int {
	r.take("{")
	var facets [][]api.Int
	if !r.comes("}") {
		facets = r.simplexes()
	}
	r.take("}")
	return facets
}

func (r *reader) simplexes() [][]api.Int {
	all := [][]api.Int{r.simplex()}
	for r.takeIf(",") {
		all = append(all, r.simplex())
	}
	return all
}

func (r *reader) simplex() []api.Int {
	numbers := []api.Int{r.number()}
	for r.next().Kind == api.Number {
		numbers = append(numbers, r.number())
	}
	return numbers
}

// vertices are the numbers of a facet as ints. It gives up at one that is none.
func vertices(facet []api.Int) []int {
	return each(facet, func(n api.Int) int {
		vertex, e := zint.Small(n)
		if e != api.OK {
			giveUp(0, api.ErrText)
		}
		return int(vertex)
	})
}
