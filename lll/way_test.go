package lll

import (
	"fmt"
	"testing"

	"trellis/api"
	"trellis/check"
	"trellis/hnf"
	"trellis/made"
	"trellis/mat"
)

// holdShadows asks for the shadows that the lines of a frame cast, whatever has been done to them.
func holdShadows(t *testing.T, call string, f frame) {
	t.Helper()
	for i, r := range f {
		check.Ints(t, fmt.Sprint(call, ": shadow of row ", i), r.shadow, f[:i].cast(r.line, nil).shadow)
	}
}

// holdTaken asks for a reduced basis of a's lattice, made of a's rows as it says.
func holdTaken(t *testing.T, call string, a api.Mat, f frame) {
	t.Helper()
	holdShadows(t, call, f)
	check.Same(t, call+": is it reduced", f.isReduced(), true)
	b := api.Mat{Rows: len(f), Cols: a.Cols}
	for _, r := range f {
		b.At = append(b.At, r.line...)
		line, _ := mat.VecMul(r.by, a)
		check.Ints(t, call+": what by makes", r.line, line)
	}
	want, _ := hnf.Basis(a)
	got, _ := hnf.Basis(b)
	check.Mat(t, call+": Hermite basis", got, want)
}

// P23.4, its way: with whichever rows it begins, a reduced basis comes out.
func TestAllTaken(t *testing.T) {
	for seed := range 150 {
		s := made.Source{Words: seed % 3, Seed: uint64(seed)}
		rows, cols := 1+seed%7, 1+seed/7%6
		for _, a := range []api.Mat{s.Whole(rows, cols), s.OfRank(rows, cols, min(rows, cols)/2), s.Smith(rows, cols, s.Chain(min(rows, cols)))} {
			holdTaken(t, "of its own rows", a, allTaken(ownRows(a)))
			holdTaken(t, "of its Hermite form", a, allTaken(hermiteRows(a)))
		}
	}
}

// P23.4, its way: row by row, the shadows stay those of the lines, also while rows are set aside.
func TestTake(t *testing.T) {
	asides := 0
	for seed := range 60 {
		s := made.Source{Words: seed % 3, Seed: uint64(seed)}
		a := s.OfRank(9, 6, 1+seed%6)
		var f frame
		for _, next := range ownRows(a) {
			rank := len(f)
			taken, aside := f.take(next)
			holdShadows(t, "of take", taken)
			check.Same(t, "is it reduced", taken.isReduced(), true)
			check.Same(t, "how many rows there are of one more", len(taken)+len(aside) == rank || len(taken) == rank+1 && len(aside) == 0, true)
			asides += len(aside)
			f = allTaken(append(taken, aside...))
		}
		holdTaken(t, "of all rows", a, f)
	}
	check.Same(t, "were rows set aside", asides > 10, true)
}

// P23.4, its way: it begins with the nearer of the two, the Hermite basis where many rows leave little of the lattice, the own rows where they are as good as reduced.
func TestBegun(t *testing.T) {
	s := made.Source{Words: 1, Seed: 1}
	square := s.Whole(10, 10)
	few := made.Source{Seed: 1}
	inside, _ := mat.Stack(square, made.Product(few.Whole(3, 10), square))
	hidden, _, _ := s.Unimodular(12)
	for _, c := range []struct {
		a         api.Mat
		isHermite bool
	}{
		{s.Whole(12, 10), true}, {s.Whole(20, 10), true}, {hidden, true}, {square, false}, {inside, false}, {s.Whole(5, 10), false}, {check.Matrix("0 0; 0 0"), false}, {check.Matrix("3x0"), false},
	} {
		want := c.a
		if c.isHermite {
			want, _ = hnf.Form(c.a)
		}
		got := api.Mat{Rows: c.a.Rows, Cols: c.a.Cols}
		for _, r := range begun(c.a) {
			got.At = append(got.At, r.line...)
		}
		check.Mat(t, fmt.Sprint("begun of ", c.a.Rows, " by ", c.a.Cols), got, want)
	}
}
