package mat_test

import (
	"fmt"
	"testing"

	"trellis/api"
	"trellis/check"
	"trellis/mat"
	"trellis/zint"
)

// shapes are all of at most so many rows and columns.
func shapes(most int) [][2]int {
	var all [][2]int
	for rows := range most + 1 {
		for cols := range most + 1 {
			all = append(all, [2]int{rows, cols})
		}
	}
	return all
}

// entries are lists that matrices are filled from: short numbers, and such of all lengths, in least form or not.
func entries() [][]api.Int {
	return [][]api.Int{
		nums(3, -1, 4, 1, -5, 9, 2, -6, 5, 3, 5, 0, -8, 9, 7),
		{plus(top, 0), minus(0), plus(1, 2, 3), minus(high, top), num(-1), plus(0, 0, 1, 0), minus(check.Mixed(6, 1)...), plus(check.Mixed(9, 2)...), minus(top, top), num(2), plus(check.Mixed(3, 3)...)},
		check.Integers(),
	}
}

// matrices are of each shape of at most so many rows and columns, filled from each list, no two from the same place on.
func matrices(most int) []api.Mat {
	var all []api.Mat
	for k, list := range entries() {
		for i, shape := range shapes(most) {
			from := (7*i + k) % len(list)
			all = append(all, check.Filled(shape[0], shape[1], append(list[from:len(list):len(list)], list[:from]...)))
		}
	}
	return all
}

// byPlaces is the matrix of this shape with the entries that at says.
func byPlaces(rows, cols int, at func(i, j int) api.Int) api.Mat {
	a := api.Mat{Rows: rows, Cols: cols}
	for i := range rows {
		for j := range cols {
			a.At = append(a.At, zint.Least(at(i, j)))
		}
	}
	return a
}

// entry is what stands in row i and column j.
func entry(a api.Mat, i, j int) api.Int { return a.At[i*a.Cols+j] }

// sumOf is the sum of n numbers, one after the other.
func sumOf(n int, at func(i int) api.Int) api.Int {
	sum := num(0)
	for i := range n {
		sum = zint.Add(sum, at(i))
	}
	return sum
}

// right is the matrix of an answer without an error.
func right(t *testing.T, call string) func(a api.Mat, e api.Errno) api.Mat {
	return func(a api.Mat, e api.Errno) api.Mat {
		t.Helper()
		check.Same(t, call, e, api.OK)
		return a
	}
}

// P9.2 to P9.4 for one matrix, by the chapter's words.
func TestByPlacesOfOne(t *testing.T) {
	for _, a := range matrices(4) {
		call := fmt.Sprintf("%d by %d: ", a.Rows, a.Cols)
		here := func(i, j int) api.Int { return entry(a, i, j) }
		got, e := mat.Least(a)
		hold(t, call+"Least", got, e, byPlaces(a.Rows, a.Cols, here))
		got, e = mat.Make(a.Rows, a.Cols, a.At)
		hold(t, call+"Make", got, e, byPlaces(a.Rows, a.Cols, here))
		got, e = mat.Turn(a)
		hold(t, call+"Turn", got, e, byPlaces(a.Cols, a.Rows, func(i, j int) api.Int { return entry(a, j, i) }))
		for _, k := range []api.Int{num(0), num(-1), plus(top, 0), minus(check.Mixed(4, 5)...)} {
			got, e = mat.Scale(k, a)
			hold(t, call+"Scale", got, e, byPlaces(a.Rows, a.Cols, func(i, j int) api.Int { return zint.Mul(k, here(i, j)) }))
		}
		if a.Rows == a.Cols {
			got, e := mat.Trace(a)
			check.Same(t, call+"Trace", e, api.OK)
			check.Int(t, call+"Trace", got, sumOf(a.Rows, func(i int) api.Int { return entry(a, i, i) }))
		}
		check.Mat(t, call+"Lines", told(t, call+"Lines", mat.Lines(a), a.Cols), byPlaces(a.Rows, a.Cols, here))
	}
}

// P9.3 and P9.4 for two matrices, by the chapter's words.
func TestByPlacesOfTwo(t *testing.T) {
	for _, a := range matrices(3) {
		for _, b := range matrices(3) {
			call := fmt.Sprintf("%v, %v: ", a, b)
			holdSums(t, call, a, b)
			holdProducts(t, call, a, b)
			holdTogether(t, call, a, b)
		}
	}
}

func holdSums(t *testing.T, call string, a, b api.Mat) {
	t.Helper()
	sum, e := mat.Add(a, b)
	difference, f := mat.Sub(a, b)
	if a.Rows != b.Rows || a.Cols != b.Cols {
		holdRefusal(t, call+"Add", sum, e, api.ErrFit)
		holdRefusal(t, call+"Sub", difference, f, api.ErrFit)
		return
	}
	hold(t, call+"Add", sum, e, byPlaces(a.Rows, a.Cols, func(i, j int) api.Int { return zint.Add(entry(a, i, j), entry(b, i, j)) }))
	hold(t, call+"Sub", difference, f, byPlaces(a.Rows, a.Cols, func(i, j int) api.Int { return zint.Sub(entry(a, i, j), entry(b, i, j)) }))
	same, e := mat.Equal(a, b)
	check.Same(t, call+"Equal", e, api.OK)
	zero, e := mat.Zero(a.Rows, a.Cols)
	check.Same(t, call+"Zero", e, api.OK)
	none, e := mat.Equal(difference, zero)
	check.Same(t, call+"Equal with 0", e, api.OK)
	check.Same(t, call+"the same just if the difference is 0", same, none)
}

func holdProducts(t *testing.T, call string, a, b api.Mat) {
	t.Helper()
	product, e := mat.Mul(a, b)
	if a.Cols == b.Rows {
		hold(t, call+"Mul", product, e, byPlaces(a.Rows, b.Cols, func(i, j int) api.Int {
			return sumOf(a.Cols, func(k int) api.Int { return zint.Mul(entry(a, i, k), entry(b, k, j)) })
		}))
		for i := range a.Rows {
			row, e := mat.VecMul(a.At[i*a.Cols:(i+1)*a.Cols], b)
			check.Same(t, call+"VecMul", e, api.OK)
			check.Ints(t, call+"VecMul", row, product.At[i*b.Cols:(i+1)*b.Cols])
		}
	} else {
		holdRefusal(t, call+"Mul", product, e, api.ErrFit)
	}
	got, e := mat.Kron(a, b)
	hold(t, call+"Kron", got, e, byPlaces(a.Rows*b.Rows, a.Cols*b.Cols, func(i, j int) api.Int {
		return zint.Mul(entry(a, i/b.Rows, j/b.Cols), entry(b, i%b.Rows, j%b.Cols))
	}))
}

func holdTogether(t *testing.T, call string, a, b api.Mat) {
	t.Helper()
	list := []api.Mat{a, b, a}
	stack, e := mat.Stack(list...)
	if a.Cols == b.Cols {
		hold(t, call+"Stack", stack, e, byPlaces(a.Rows+b.Rows+a.Rows, a.Cols, func(i, j int) api.Int {
			k, i := within(i, a.Rows, b.Rows)
			return entry(list[k], i, j)
		}))
	} else {
		holdRefusal(t, call+"Stack", stack, e, api.ErrFit)
	}
	beside, e := mat.Beside(list...)
	if a.Rows == b.Rows {
		hold(t, call+"Beside", beside, e, byPlaces(a.Rows, a.Cols+b.Cols+a.Cols, func(i, j int) api.Int {
			k, j := within(j, a.Cols, b.Cols)
			return entry(list[k], i, j)
		}))
	} else {
		holdRefusal(t, call+"Beside", beside, e, api.ErrFit)
	}
}

// within says in which part line i of the whole stands, and as which line there; the last part's length is not asked for.
func within(i int, lengths ...int) (part, line int) {
	for part, length := range lengths {
		if i < length {
			return part, i
		}
		i -= length
	}
	return len(lengths), i
}

// P9.4: all places of small matrices, in all orders of up to three.
func TestPickAll(t *testing.T) {
	a := check.Filled(3, 3, entries()[1])
	var lists [][]int
	for n := range 4 {
		for code := range [...]int{1, 3, 9, 27}[n] {
			var places []int
			for range n {
				places = append(places, code%3)
				code /= 3
			}
			lists = append(lists, places)
		}
	}
	for _, rows := range lists {
		for _, cols := range lists {
			got, e := mat.Pick(a, rows, cols)
			hold(t, fmt.Sprintf("Pick(a, %v, %v)", rows, cols), got, e, byPlaces(len(rows), len(cols), func(i, j int) api.Int { return entry(a, rows[i], cols[j]) }))
		}
	}
	rows, cols := upTo(64), upTo(64)
	for i := range rows {
		rows[i], cols[i] = rows[i]*5%64, cols[i]*11%64
	}
	large := check.Filled(64, 64, check.Integers())
	got, e := mat.Pick(large, rows, cols)
	hold(t, "Pick of all places, mixed", got, e, byPlaces(64, 64, func(i, j int) api.Int { return entry(large, i*5%64, j*11%64) }))
}

// P9.3: a power is the product of so many.
func TestPowers(t *testing.T) {
	for _, a := range matrices(3) {
		if a.Rows != a.Cols {
			continue
		}
		want := right(t, "Unit")(mat.Unit(a.Rows))
		for n := range 20 {
			got, e := mat.Pow(a, n)
			hold(t, fmt.Sprintf("Pow(%v, %d)", a, n), got, e, want)
			want = right(t, "Mul")(mat.Mul(want, a))
		}
		for _, n := range []int{127, 128, 200, 255, 256} {
			got, e := mat.Pow(a, n)
			hold(t, fmt.Sprintf("Pow(%v, %d)", a, n), got, e, right(t, "Mul")(mat.Mul(right(t, "Pow")(mat.Pow(a, n-100)), right(t, "Pow")(mat.Pow(a, 100)))))
		}
	}
}

// P9.3 for the greatest matrices.
func TestLargest(t *testing.T) {
	a := check.Filled(64, 64, check.Integers()[3:])
	b := check.Filled(64, 64, entries()[1])
	ab := right(t, "Mul")(mat.Mul(a, b))
	check.Mat(t, "Mul of 64 by 64", ab, byPlaces(64, 64, func(i, j int) api.Int {
		return sumOf(64, func(k int) api.Int { return zint.Mul(entry(a, i, k), entry(b, k, j)) })
	}))
	turned := right(t, "Mul")(mat.Mul(right(t, "Turn")(mat.Turn(b)), right(t, "Turn")(mat.Turn(a))))
	check.Mat(t, "the product turned", right(t, "Turn")(mat.Turn(ab)), turned)
	one, e := mat.Trace(ab)
	check.Same(t, "Trace", e, api.OK)
	other, e := mat.Trace(right(t, "Mul")(mat.Mul(b, a)))
	check.Same(t, "Trace", e, api.OK)
	check.Int(t, "the trace of the products both ways", one, other)
	c, d := check.Filled(8, 8, check.Integers()[5:]), check.Filled(8, 8, entries()[1])
	got, e := mat.Kron(c, d)
	hold(t, "Kron of 8 by 8", got, e, byPlaces(64, 64, func(i, j int) api.Int { return zint.Mul(entry(c, i/8, j/8), entry(d, i%8, j%8)) }))
}
