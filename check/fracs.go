package check

import (
	"maps"
	"slices"
	"strings"

	"trellis/api"
)

// FracRow is the list of fractions that a text writes, with blanks between, just as it writes them, in lowest terms or not; 3 stands for 3/1.
func FracRow(text string) []api.Frac {
	var all []api.Frac
	for word := range strings.FieldsSeq(text) {
		num, den, barred := strings.Cut(word, "/")
		if !barred {
			den = "1"
		}
		all = append(all, Over(number(num), number(den)))
	}
	return all
}

// FracMatrix is the matrix of fractions that a text writes, as Matrix and FracRow read it.
func FracMatrix(text string) api.QMat {
	if rows, cols, ok := strings.Cut(text, "x"); ok {
		return api.QMat{Rows: number(rows), Cols: number(cols)}
	}
	var q api.QMat
	for row := range strings.SplitSeq(text, ";") {
		q.Rows++
		q.At = append(q.At, FracRow(row)...)
	}
	q.Cols = len(q.At) / q.Rows
	return q
}

// Fracs holds the list of fractions that a call answers against the one that it must answer, number by number: so lowest terms are asked for too.
func Fracs(t Reporter, call string, got, want []api.Frac) {
	t.Helper()
	if !sameFracs(got, want) {
		t.Errorf("%s: %v, want %v", call, got, want)
	}
}

// QMat holds the matrix of fractions that a call answers against the one that it must answer: the shape, and each entry as Fracs does.
func QMat(t Reporter, call string, got, want api.QMat) {
	t.Helper()
	if got.Rows != want.Rows || got.Cols != want.Cols || !sameFracs(got.At, want.At) {
		t.Errorf("%s: %v, want %v", call, got, want)
	}
}

func sameFracs(a, b []api.Frac) bool {
	return slices.EqualFunc(a, b, func(f, g api.Frac) bool { return sameInt(f.Num, g.Num) && sameInt(f.Den, g.Den) })
}

// QMatMemory holds calls on two matrices of fractions that answer fractions, by their names, against R4 as ListMemory does, at each pair of the matrices.
func QMatMemory(t Reporter, calls map[string]func(p, q api.QMat) []api.Frac, matrices []api.QMat) {
	t.Helper()
	for _, name := range slices.Sorted(maps.Keys(calls)) {
		for _, p := range matrices {
			for _, q := range matrices {
				fracMemoryOf(t, name, calls[name], p, q)
			}
		}
	}
}

func fracMemoryOf(t Reporter, name string, call func(p, q api.QMat) []api.Frac, p, q api.QMat) {
	t.Helper()
	// The entries of q stand in the spare room of p's.
	whole := slices.Concat(p.At, q.At)
	a := RoomyFracs(whole)
	called := func() []api.Frac {
		first := api.QMat{Rows: p.Rows, Cols: p.Cols, At: a[:len(p.At)]}
		second := api.QMat{Rows: q.Rows, Cols: q.Cols, At: a[len(p.At):]}
		return call(first, second)
	}
	first, second := called(), called()
	want := RoomyFracs(first)
	if !areRoomyFracs(a, whole) {
		t.Errorf("%s of %v, %v changed what was handed in", name, p, q)
	}
	var sizes [][]uint64
	for _, f := range first {
		sizes = append(sizes, f.Num.Mag, f.Den.Mag)
	}
	Apart(t, name, sizes...)
	SpoilFracs(first)
	if !areRoomyFracs(a, whole) {
		t.Errorf("%s of %v, %v shares memory with what was handed in", name, p, q)
	}
	if !sameFracs(second, want) {
		t.Errorf("%s of %v, %v: two answers share memory, or differ", name, p, q)
	}
	SpoilFracs(a)
	if !sameFracs(second, want) {
		t.Errorf("%s of %v, %v hangs on what was handed in", name, p, q)
	}
}

// RoomyFracs is a copy of a, all its integers and itself with spare room behind them.
func RoomyFracs(a []api.Frac) []api.Frac {
	var all []api.Frac
	for _, f := range slices.Concat(a, roomOfFracs()) {
		ints := Roomy([]api.Int{f.Num, f.Den})
		all = append(all, api.Frac{Num: ints[0], Den: ints[1]})
	}
	return all[:len(a)]
}

// areRoomyFracs says if a is still the roomy copy of x.
func areRoomyFracs(a, x []api.Frac) bool {
	whole := slices.Concat(x, roomOfFracs())
	isRoomyInt := func(n, m api.Int) bool { return n.Neg == m.Neg && isRoomy(n.Mag, m.Mag) }
	return slices.EqualFunc(a[:len(whole)], whole, func(f, g api.Frac) bool {
		return isRoomyInt(f.Num, g.Num) && isRoomyInt(f.Den, g.Den)
	})
}

// roomOfFracs is what stands in the spare room of a roomy list of fractions.
func roomOfFracs() []api.Frac {
	return []api.Frac{Over(98, -99), {Num: Minus(95, 96)}}
}

// SpoilFracs writes over a list of fractions and over their integers, spare room included.
func SpoilFracs(a []api.Frac) {
	a = a[:cap(a)]
	for i, f := range a {
		scribble(f.Num.Mag)
		scribble(f.Den.Mag)
		a[i] = Over(97, 0)
	}
}
