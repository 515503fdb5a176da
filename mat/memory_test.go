package mat_test

import (
	"fmt"
	"slices"
	"testing"

	"trellis/api"
	"trellis/check"
	"trellis/mat"
)

// at are the entries of an answer.
func at(a api.Mat, e api.Errno) []api.Int { return a.At }

// ofOne is a call at the first of two matrices.
func ofOne(call func(a api.Mat) (api.Mat, api.Errno)) func(a, b api.Mat) []api.Int {
	return func(a, b api.Mat) []api.Int { return at(call(a)) }
}

// ofBoth is a call at two matrices.
func ofBoth(call func(a, b api.Mat) (api.Mat, api.Errno)) func(a, b api.Mat) []api.Int {
	return func(a, b api.Mat) []api.Int { return at(call(a, b)) }
}

// numbers are 0 and 1 and such as copies may be saved for, and such as are in no least form.
func numbers() []api.Int {
	return []api.Int{num(1), minus(0, 0), plus(6, 0), num(-1), num(0), minus(0, 1), plus(append(check.Mixed(5, 4), 0)...)}
}

// R4: what is handed in stays as it is, spare room included, and an answer has memory of its own, its spare room too.
func TestMemory(t *testing.T) {
	var all []api.Mat
	for _, shape := range shapes(2) {
		all = append(all, check.Filled(shape[0], shape[1], numbers()), check.Filled(shape[0], shape[1], numbers()[3:]))
	}
	calls := map[string]func(a, b api.Mat) []api.Int{
		"Make":          func(a, b api.Mat) []api.Int { return at(mat.Make(a.Rows, a.Cols, a.At)) },
		"Diag":          func(a, b api.Mat) []api.Int { return at(mat.Diag(5, 4, a.At)) },
		"Least":         ofOne(mat.Least),
		"Turn":          ofOne(mat.Turn),
		"Equal":         ofBoth(callsOfTwo()["Equal"]),
		"Check":         func(a, b api.Mat) []api.Int { return nums(int(mat.Check(a))) },
		"Add":           ofBoth(mat.Add),
		"Sub":           ofBoth(mat.Sub),
		"Mul":           ofBoth(mat.Mul),
		"Kron":          ofBoth(mat.Kron),
		"Stack":         ofBoth(func(a, b api.Mat) (api.Mat, api.Errno) { return mat.Stack(a, b) }),
		"Beside":        ofBoth(func(a, b api.Mat) (api.Mat, api.Errno) { return mat.Beside(a, b) }),
		"Stack 1":       ofOne(func(a api.Mat) (api.Mat, api.Errno) { return mat.Stack(a) }),
		"Beside 1":      ofOne(func(a api.Mat) (api.Mat, api.Errno) { return mat.Beside(a) }),
		"Stack twice":   ofOne(func(a api.Mat) (api.Mat, api.Errno) { return mat.Stack(a, a) }),
		"Beside twice":  ofOne(func(a api.Mat) (api.Mat, api.Errno) { return mat.Beside(a, a) }),
		"Add to itself": ofOne(func(a api.Mat) (api.Mat, api.Errno) { return mat.Add(a, a) }),
		"Kron with 1":   ofOne(func(a api.Mat) (api.Mat, api.Errno) { return mat.Kron(a, mx("1")) }),
		"Trace": func(a, b api.Mat) []api.Int {
			sum, _ := mat.Trace(a)
			return []api.Int{sum}
		},
		"VecMul": func(a, b api.Mat) []api.Int {
			y, _ := mat.VecMul(a.At, b)
			return y
		},
		"Lines": func(a, b api.Mat) []api.Int {
			var rows [][]api.Int
			for _, row := range mat.Lines(a) {
				rows = append(rows, row)
			}
			return slices.Concat(rows...)
		},
	}
	for _, n := range []int{0, 1, 2, 3} {
		calls[fmt.Sprintf("Pow to %d", n)] = ofOne(func(a api.Mat) (api.Mat, api.Errno) { return mat.Pow(a, n) })
	}
	for i, k := range numbers() {
		calls[fmt.Sprintf("Scale by number %d", i)] = ofOne(func(a api.Mat) (api.Mat, api.Errno) { return mat.Scale(k, a) })
	}
	calls["Scale by an entry"] = ofOne(func(a api.Mat) (api.Mat, api.Errno) { return mat.Scale(slices.Concat(a.At, nums(1))[0], a) })
	for _, places := range [][]int{nil, {0}, {1, 0}, {0, 0, 1, 1}, {2}} {
		calls[fmt.Sprintf("Pick of %v", places)] = ofOne(func(a api.Mat) (api.Mat, api.Errno) { return mat.Pick(a, places, places) })
	}
	check.MatMemory(t, calls, all)
}

// R4 for the numbers that Zero and Unit answer.
func TestMemoryOfMaking(t *testing.T) {
	for name, call := range map[string]func() (api.Mat, api.Errno){
		"Zero": func() (api.Mat, api.Errno) { return mat.Zero(3, 4) },
		"Unit": func() (api.Mat, api.Errno) { return mat.Unit(3) },
		"Pow":  func() (api.Mat, api.Errno) { return mat.Pow(mx("0 1; 1 0"), 0) },
	} {
		check.ListMemory(t, map[string]func(list []api.Int) []api.Int{name: func([]api.Int) []api.Int { return at(call()) }}, [][]api.Int{nil})
	}
}

// R4 for lists of matrices and of places: they stay as they are, spare room included.
func TestMemoryOfLists(t *testing.T) {
	fresh := func() []api.Mat { return []api.Mat{mx("1 2"), mx("3 4"), mx("5 6"), mx("7 8")} }
	whole, start := fresh(), fresh()
	for name, call := range callsOfLists() {
		got, e := call(whole[:2]...)
		check.Same(t, name, e, api.OK)
		check.Spoil(got.At)
		for i := range whole {
			check.Mat(t, fmt.Sprintf("%s: matrix %d of what was handed in", name, i), whole[i], start[i])
		}
	}
	places := []int{1, 0, 1, 7, 8, 9}
	got, e := mat.Pick(mx("1 2; 3 4"), places[:2], places[1:3])
	hold(t, "Pick by pieces of one list", got, e, mx("3 4; 1 2"))
	if !slices.Equal(places, []int{1, 0, 1, 7, 8, 9}) {
		t.Errorf("Pick changed its places: %v", places)
	}
}

// R4 where the matrices that are handed in are pieces of one list, and their numbers too.
func TestOverlap(t *testing.T) {
	words := list{1, 0, 2, 3, 0}
	ints := []api.Int{plus(words[:2]...), minus(words[1:3]...), plus(words[2:4]...), minus(words[3:]...), plus(words...)}
	a, b := api.Mat{Rows: 2, Cols: 2, At: ints[:4]}, api.Mat{Rows: 2, Cols: 2, At: ints[1:]}
	got, e := mat.Mul(a, b)
	hold(t, "Mul of pieces", got, e, byPlaces(2, 2, func(i, j int) api.Int {
		dot, _ := mat.VecMul(a.At[2*i:2*i+2], of(2, 1, entry(b, 0, j), entry(b, 1, j)))
		return dot[0]
	}))
	got, e = mat.Stack(a, b)
	hold(t, "Stack of pieces", got, e, of(4, 2, num(1), minus(0, 2), plus(2, 3), num(-3), minus(0, 2), plus(2, 3), num(-3), plus(1, 0, 2, 3)))
	check.Words(t, "what was handed in", words, list{1, 0, 2, 3, 0})
}
