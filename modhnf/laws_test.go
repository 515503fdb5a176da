package modhnf_test

import (
	"slices"
	"testing"

	"trellis/api"
	"trellis/bareiss"
	"trellis/bezout"
	"trellis/check"
	"trellis/made"
	"trellis/mat"
	"trellis/minors"
	"trellis/modhnf"
	"trellis/zint"
)

// someMatrices are of many shapes and all ranks, with numbers of many lengths.
func someMatrices() []api.Mat {
	var all []api.Mat
	for _, shape := range [][2]int{{1, 1}, {1, 4}, {4, 1}, {2, 2}, {3, 3}, {3, 5}, {5, 3}, {6, 6}, {9, 4}, {4, 9}, {12, 12}} {
		for rank := range min(shape[0], shape[1]) + 1 {
			s := made.Source{Words: rank % 3, Seed: uint64(100*shape[0] + 10*shape[1] + rank)}
			all = append(all, s.OfRank(shape[0], shape[1], rank), s.Smith(shape[0], shape[1], s.Chain(rank)))
		}
	}
	return all
}

// P19.2 and the whole's P3: both roads end in the same form, whatever the rows of the lattice are.
func TestRoads(t *testing.T) {
	for i, a := range someMatrices() {
		h := holdRoads(t, a)
		holdForm(t, made.Disguised(a), h)
		s := made.Source{Words: i % 3, Seed: uint64(i)}
		mix, _, _ := s.Unimodular(a.Rows)
		holdForm(t, product(mix, a), h)
		turned, _ := mat.Scale(num(-1), a)
		holdForm(t, turned, h)
		holdForm(t, h, h)
		more, _ := mat.Stack(a, product(s.Whole(2, a.Rows), a))
		zeros, _ := mat.Zero(2, a.Cols)
		longer, _ := mat.Stack(h, zeros)
		holdForm(t, more, longer)
	}
}

// P19.2: columns of zeros between the others stay where they are.
func TestZeroColumns(t *testing.T) {
	for i, a := range someMatrices() {
		h := holdRoads(t, a)
		s := made.Source{Seed: uint64(i)}
		places := s.Places(a.Cols, a.Cols+4)
		holdForm(t, spread(a, places), spread(h, places))
	}
}

// spread is a with its columns in these places, four more columns and zeros in those.
func spread(a api.Mat, places []int) api.Mat {
	wide, _ := mat.Zero(a.Rows, a.Cols+4)
	for i := range a.Rows {
		for k, c := range places {
			wide.At[i*wide.Cols+c] = a.At[i*a.Cols+k]
		}
	}
	return wide
}

// P19.3 and P19.4: Volume by the minors at the pivot columns, Multiple by the determinant of the core, and the one divides the other.
func TestVolumeAndMultiple(t *testing.T) {
	for _, a := range someMatrices() {
		rows, _ := bareiss.RowSet(a)
		cols, _ := bareiss.Pivots(a)
		core, _ := mat.Pick(a, rows, cols)
		det, _ := bareiss.Det(core)
		holdMultiple(t, a, zint.Abs(det))
		volume, e := modhnf.Volume(a)
		check.Same(t, of("Volume", a), e, api.OK)
		_, e = zint.Exact(det, volume)
		check.Same(t, of("does Volume divide Multiple", a), e, api.OK)
		if a.Rows > 6 {
			continue
		}
		part, _ := mat.Pick(a, first(a.Rows), cols)
		shared, e := minors.Gcd(part, len(cols))
		check.Same(t, of("Gcd", part), e, api.OK)
		holdVolume(t, a, shared)
	}
}

// P19.1: the same as layer 18 makes of all the rows.
func TestModuloOfStack(t *testing.T) {
	for i, a := range someMatrices() {
		s := made.Source{Words: i % 4, Seed: uint64(i)}
		volume, _ := modhnf.Volume(a)
		for _, d := range []api.Int{num(1), num(2), num(60), s.NotZero(), s.NotZero(), volume, zint.Mul(volume, s.NotZero())} {
			want := stacked(t, a, d)
			holdModulo(t, a, d, want)
			holdModulo(t, made.Disguised(a), d, want)
		}
	}
}

// What follows: where there are as many pivot columns as columns, Modulo at every multiple of Volume is the beginning of Form; where there are fewer, of the pivot columns alone.
func TestModuloOfVolume(t *testing.T) {
	for i, a := range someMatrices() {
		cols, _ := bareiss.Pivots(a)
		part, _ := mat.Pick(a, first(a.Rows), cols)
		h := holdRoads(t, a)
		beginning, _ := mat.Pick(h, first(len(cols)), cols)
		volume, _ := modhnf.Volume(a)
		multiple, _ := modhnf.Multiple(a)
		s := made.Source{Words: i % 3, Seed: uint64(i)}
		for _, d := range []api.Int{volume, multiple, zint.Mul(volume, num(6)), zint.Mul(multiple, s.NotZero())} {
			holdModulo(t, part, d, beginning)
		}
	}
}

// P19.1: with a multiple of d the rows of a that are multiples of d change nothing, what is answered stays as it is, and at a divisor of d the answer may go on from the one at d.
func TestModuloAgain(t *testing.T) {
	for i, a := range someMatrices() {
		s := made.Source{Words: i % 3, Seed: uint64(i)}
		d, part := s.NotZero(), s.NotZero()
		whole := zint.Mul(d, part)
		basis, e := modhnf.Modulo(a, whole)
		check.Same(t, of("Modulo", a), e, api.OK)
		holdModulo(t, basis, whole, basis)
		at, _ := modhnf.Modulo(a, d)
		holdModulo(t, basis, d, at)
		moved, _ := mat.Scale(d, s.Whole(a.Rows, a.Cols))
		sum, _ := mat.Add(a, moved)
		holdModulo(t, sum, d, at)
		if a.Rows > 1 {
			order, _ := mat.Pick(a, append(s.Order(a.Rows), 0), first(a.Cols))
			holdModulo(t, order, d, at)
		}
	}
}

// P19.1: a d that has nothing in common with Volume leaves all rows.
func TestModuloApart(t *testing.T) {
	for i, a := range someMatrices() {
		volume, _ := modhnf.Volume(a)
		s := made.Source{Words: 2, Seed: uint64(i)}
		cols, _ := bareiss.Pivots(a)
		part, _ := mat.Pick(a, first(a.Rows), cols)
		for range 4 {
			if d := s.NotZero(); zint.Cmp(bezout.Gcd(d, volume), num(1)) == 0 {
				holdModulo(t, part, d, multiples(num(1), len(cols)))
			}
		}
	}
}

// P19.1 to P19.4: integers of many sizes and both signs, in least form or not.
func TestIntegers(t *testing.T) {
	all := check.Integers()
	for n := range 5 {
		for from := 0; from < len(all); from += 3 {
			list := slices.Concat(all[from:], all[:from])
			for _, cols := range []int{n, n + 2, max(0, n-2)} {
				a := check.Filled(n, cols, list)
				holdRoads(t, a)
				for _, d := range list[:6] {
					if zint.Sign(d) != 0 {
						holdModulo(t, a, d, stacked(t, a, d))
					}
				}
			}
		}
	}
}

// P19.2 and P19.3: a single column has the greatest common divisor.
func TestSingleColumns(t *testing.T) {
	all := check.Integers()
	for from := range len(all) {
		column := check.Filled(5, 1, slices.Concat(all[from:], all[:from]))
		want := check.Filled(5, 1, nums(0))
		want.At[0] = bezout.GcdAll(column.At)
		holdForm(t, column, want)
		for _, d := range all[:from] {
			if zint.Sign(d) != 0 {
				g := bezout.Gcd(d, want.At[0])
				holdModulo(t, column, d, api.Mat{Rows: 1, Cols: 1, At: []api.Int{g}})
			}
		}
	}
}
