package modp_test

import (
	"fmt"
	"slices"
	"testing"

	"trellis/api"
	"trellis/check"
	"trellis/mat"
	"trellis/modp"
	"trellis/zint"
)

// residue is the least residue of n modulo p.
func residue(n api.Int, p uint64) api.Int {
	rest, _ := zint.Mod(n, plus(p))
	return rest
}

// residuesOf is a matrix with the least residue of each entry.
func residuesOf(a api.Mat, p uint64) api.Mat {
	all := api.Mat{Rows: a.Rows, Cols: a.Cols, At: make([]api.Int, len(a.At))}
	for i, n := range a.At {
		all.At[i] = residue(n, p)
	}
	return all
}

// product is that of the matrices, modulo p.
func product(p uint64, first api.Mat, others ...api.Mat) api.Mat {
	for _, other := range others {
		whole, _ := mat.Mul(first, other)
		first = residuesOf(whole, p)
	}
	return first
}

// determinant is the sum, over all ways to pick an entry in each row and each column, of the products with their signs.
func determinant(a api.Mat) api.Int {
	if a.Rows == 0 {
		return num(1)
	}
	sum := num(0)
	var rows []int
	for i := 1; i < a.Rows; i++ {
		rows = append(rows, i)
	}
	for j := range a.Cols {
		var cols []int
		for k := range a.Cols {
			if k != j {
				cols = append(cols, k)
			}
		}
		rest, _ := mat.Pick(a, rows, cols)
		term := zint.Mul(a.At[j], determinant(rest))
		if j%2 == 1 {
			term = zint.Neg(term)
		}
		sum = zint.Add(sum, term)
	}
	return sum
}

// holdInverse asks for a matrix that multiplies a to the unit matrix, from both sides.
func holdInverse(t *testing.T, call string, a, inverse api.Mat, p uint64) {
	t.Helper()
	unit, _ := mat.Unit(a.Rows)
	check.Mat(t, call+": a times it", product(p, a, inverse), unit)
	check.Mat(t, call+": it times a", product(p, inverse, a), unit)
	check.Mat(t, call+": least residues", inverse, residuesOf(inverse, p))
}

// source gives residues in no order, others for each seed, 0 now and then.
type source struct {
	p, seed uint64
}

func (s *source) next() uint64 {
	s.seed++
	return check.Mixed(3, s.seed*0x9e3779b97f4a7c15)[2] % s.p
}

// notZero gives a residue that is not 0.
func (s *source) notZero() uint64 {
	return 1 + s.next()%(s.p-1)
}

// places are so many of the first n, rising.
func (s *source) places(count, n int) []int {
	all := make([]int, n)
	for i := range all {
		all[i] = i
	}
	for len(all) > count {
		i := int(check.Mixed(3, s.next()+uint64(len(all)))[2] % uint64(len(all)))
		all = slices.Delete(all, i, i+1)
	}
	return all
}

// whole is a matrix of residues.
func (s *source) whole(rows, cols int) api.Mat {
	a := api.Mat{Rows: rows, Cols: cols}
	for range rows * cols {
		a.At = append(a.At, residue(plus(s.next()), s.p))
	}
	return a
}

// echelon is a matrix in reduced echelon form with these pivots.
func (s *source) echelon(rows, cols int, pivots []int) api.Mat {
	a, _ := mat.Zero(rows, cols)
	for i, c := range pivots {
		for j := c + 1; j < cols; j++ {
			if !slices.Contains(pivots, j) {
				a.At[i*cols+j] = residue(plus(s.next()), s.p)
			}
		}
		a.At[i*cols+c] = num(1)
	}
	return a
}

// square is a matrix of n rows with its determinant, which is 0 just if broken says so: an order of the rows, a lower and an upper triangle.
func (s *source) square(n int, broken bool) (a api.Mat, det api.Int) {
	lower, upper := s.whole(n, n), s.whole(n, n)
	det = num(1)
	for i := range n {
		for j := range i {
			lower.At[j*n+i], upper.At[i*n+j] = num(0), num(0)
		}
		lower.At[i*n+i], upper.At[i*n+i] = num(1), plus(s.notZero())
		if broken && i == n/2 {
			upper.At[i*n+i] = num(0)
		}
		det = residue(zint.Mul(det, upper.At[i*n+i]), s.p)
	}
	order, _ := mat.Unit(n)
	for i := range n {
		// What an exchange of two rows does to an order of rows, it does to the determinant's sign.
		if j := int(s.next() % uint64(n)); j != i {
			order = exchanged(order, i, j)
			det = residue(zint.Neg(det), s.p)
		}
	}
	return product(s.p, order, lower, upper), det
}

// exchanged is a with two rows in each other's place.
func exchanged(a api.Mat, i, j int) api.Mat {
	places := make([]int, a.Rows)
	cols := make([]int, a.Cols)
	for k := range places {
		places[k] = k
	}
	for k := range cols {
		cols[k] = k
	}
	places[i], places[j] = j, i
	b, _ := mat.Pick(a, places, cols)
	return b
}

// disguised are the same numbers modulo p, of many sizes and signs, with zero words at the high end now and then.
func (s *source) disguised(list []api.Int) []api.Int {
	var all []api.Int
	for i, n := range list {
		times := api.Int{Neg: i%3 == 0, Mag: check.Mixed(i%4, s.seed+uint64(i))}
		other := zint.MulAdd(times, plus(s.p), n)
		if zint.Sign(other) == 0 {
			other.Neg = i%2 == 0
		}
		other.Mag = append(other.Mag, make([]uint64, i%3)...)
		all = append(all, other)
	}
	return all
}

// disguise is the same matrix modulo p.
func (s *source) disguise(a api.Mat) api.Mat {
	return api.Mat{Rows: a.Rows, Cols: a.Cols, At: s.disguised(a.At)}
}

// P12.2: each answer is that of the residues, whatever numbers stand for them.
func TestResiduesAlone(t *testing.T) {
	for _, p := range moduli() {
		s := &source{p: p}
		for _, shape := range shapes() {
			a := s.whole(shape[0], shape[1])
			other := s.disguise(a)
			got, e := modp.Reduce(other, p)
			hold(t, of("Reduce", other, p), got, e, a)
			for name, call := range takers() {
				want, wantErr := call(a, p)
				got, e := call(other, p)
				check.Same(t, of(name, other, p), e, wantErr)
				check.Mat(t, of(name, other, p), got, want)
			}
			b := s.whole(1, a.Cols).At
			want, wantErr := solver(b)(a, p)
			got, e = solver(s.disguised(b))(other, p)
			check.Same(t, of("Solve", other, p), e, wantErr)
			check.Mat(t, of("Solve", other, p), got, want)
		}
	}
}

// P12.3: the determinant of long integers, by all ways to pick entries.
func TestDetOfIntegers(t *testing.T) {
	for n := range 6 {
		for from := range 12 {
			a := check.Filled(n, n, check.Integers()[3*from:])
			want := determinant(a)
			for _, p := range moduli() {
				d, e := modp.Det(a, p)
				check.Same(t, of("Det", a, p), e, api.OK)
				check.Same(t, of("Det", a, p), d, word(residue(want, p)))
			}
		}
	}
}

// word is a residue as a word.
func word(n api.Int) uint64 {
	small, _ := zint.Small(n)
	return uint64(small)
}

// sizes are numbers of rows; 64, which take long, modulo the least and the greatest prime alone.
func sizes(p uint64) []int {
	if p == 2 || p == greatest {
		return []int{1, 2, 3, 4, 7, 20, 64}
	}
	return []int{1, 2, 3, 4, 7, 20}
}

// P12.3 and P12.5 for matrices whose determinant is known, up to 64 rows.
func TestSquares(t *testing.T) {
	for _, p := range moduli() {
		for _, n := range sizes(p) {
			for seed := range uint64(3) {
				s := &source{p: p, seed: seed * 1000000}
				a, det := s.square(n, seed == 2)
				holdSquare(t, s.disguise(a), p, det)
			}
		}
	}
}

func holdSquare(t *testing.T, a api.Mat, p uint64, det api.Int) {
	t.Helper()
	d, e := modp.Det(a, p)
	check.Same(t, of("Det", a, p), e, api.OK)
	check.Same(t, of("Det", a, p), d, word(det))
	rank, e := modp.Rank(a, p)
	check.Same(t, of("Rank", a, p), e, api.OK)
	inverse, e := modp.Inverse(a, p)
	if zint.Sign(det) == 0 {
		check.Same(t, of("Rank", a, p), rank, a.Rows-1)
		holdRefusal(t, of("Inverse", a, p), inverse, e, api.ErrNone)
		return
	}
	check.Same(t, of("Rank", a, p), rank, a.Rows)
	check.Same(t, of("Inverse", a, p), e, api.OK)
	holdInverse(t, of("Inverse", a, p), a, inverse, p)
}

// P12.3 and P12.4: of a form whose rows are mixed, the form comes back.
func TestFormsComeBack(t *testing.T) {
	for _, p := range moduli() {
		for _, rows := range sizes(p) {
			for _, cols := range sizes(p) {
				s := &source{p: p, seed: uint64(100 * cols)}
				rank := min(rows, cols) * int(s.next()%4) / 3
				want := s.echelon(rows, cols, s.places(rank, cols))
				mix, _ := s.square(rows, false)
				a := s.disguise(product(p, mix, want))
				got, e := modp.Echelon(a, p)
				hold(t, of("Echelon", a, p), got, e, want)
				r, e := modp.Rank(a, p)
				check.Same(t, of("Rank", a, p), r, rank)
				check.Same(t, of("Rank", a, p), e, api.OK)
			}
		}
	}
}

// across is the matrix whose kernel is that of k, a reduced echelon form without zeros, upright: for each column without a pivot it has one.
func across(k api.Mat, p uint64) api.Mat {
	pivots := leads(k)
	a := api.Mat{Rows: k.Cols, Cols: k.Cols - k.Rows}
	for i := range k.Cols {
		line := slices.Index(pivots, i)
		for j := range k.Cols {
			switch {
			case slices.Contains(pivots, j):
			case line >= 0:
				a.At = append(a.At, residue(zint.Neg(k.At[line*k.Cols+j]), p))
			case i == j:
				a.At = append(a.At, num(1))
			default:
				a.At = append(a.At, num(0))
			}
		}
	}
	return a
}

// P12.4 and P12.6: of a matrix that is made for a kernel that kernel comes back, and each solution that is 0 at its pivots.
func TestKernelsAndSolutionsComeBack(t *testing.T) {
	for _, p := range moduli() {
		for _, rows := range sizes(p) {
			for part := range 4 {
				s := &source{p: p, seed: uint64(1000*rows + part)}
				free := rows * part / 3
				pivots := s.places(free, rows)
				kernel := s.echelon(free, rows, pivots)
				rank := rows - free
				// The columns that are more than the rank have no pivot: there b is put out of reach.
				cols := min(rank+part, 64)
				spread := s.echelon(rank, cols, s.places(rank, cols))
				mix, _ := s.square(rank, false)
				a := product(p, across(kernel, p), mix, spread)
				got, e := modp.Kernel(s.disguise(a), p)
				hold(t, of("Kernel", a, p), got, e, kernel)
				holdSolutions(t, s, a, pivots, leads(spread))
			}
		}
	}
}

// holdSolutions holds Solve at a b that a has a solution for, which is 0 at the kernel's pivots, and at one that is moved where a's rows have no pivots.
func holdSolutions(t *testing.T, s *source, a api.Mat, pivots, reached []int) {
	t.Helper()
	x := s.whole(1, a.Rows)
	for _, place := range pivots {
		x.At[place] = num(0)
	}
	b := product(s.p, x, a).At
	got, e := modp.Solve(s.disguise(a), s.disguised(b), s.p)
	holdRow(t, of("Solve", a, s.p), got, e, x.At)
	for c := range a.Cols {
		if slices.Contains(reached, c) {
			continue
		}
		moved := slices.Clone(b)
		moved[c] = zint.Add(moved[c], plus(s.notZero()))
		got, e := modp.Solve(s.disguise(a), s.disguised(moved), s.p)
		holdRefusal(t, of(fmt.Sprintf("Solve, moved in column %d,", c), a, s.p), asRow(got), e, api.ErrNone)
	}
}

// P12.3, P12.5: all residues modulo a prime have the inverses that they must have.
func TestInversesOfAll(t *testing.T) {
	for _, p := range []int{2, 3, 5, 7, 11, 13, 127} {
		for v := 1; v < p; v++ {
			got, e := modp.Inverse(api.Mat{Rows: 1, Cols: 1, At: nums(v)}, uint64(p))
			check.Same(t, fmt.Sprintf("Inverse(%d, %d)", v, p), e, api.OK)
			check.Same(t, fmt.Sprintf("Inverse(%d, %d)", v, p), v*int(word(got.At[0]))%p, 1)
		}
	}
}
