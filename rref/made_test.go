package rref_test

import (
	"fmt"
	"slices"
	"testing"

	"trellis/api"
	"trellis/check"
	"trellis/made"
	"trellis/rref"
	"trellis/zint"
)

// source gives fractions, and matrices made of them.
type source struct{ made.Source }

func newSource(words int, seed uint64) *source {
	return &source{made.Source{Words: words, Seed: seed}}
}

// fraction is 0 now and then.
func (s *source) fraction() api.Frac {
	return lowest(api.Frac{Num: s.Next(), Den: s.NotZero()})
}

// list is a list of n fractions.
func (s *source) list(n int) []api.Frac {
	var all []api.Frac
	for range n {
		all = append(all, s.fraction())
	}
	return all
}

// echelon is a matrix in reduced echelon form with first ones in these columns.
func (s *source) echelon(rows, cols int, columns []int) api.QMat {
	q := filled(rows, cols, row("0"))
	for i, c := range columns {
		for j := c + 1; j < cols; j++ {
			if !slices.Contains(columns, j) {
				q.At[i*cols+j] = s.fraction()
			}
		}
		q.At[i*cols+c] = check.Over(1, 1)
	}
	return q
}

// scales is a diagonal matrix of n fractions that are not 0, and its inverse.
func (s *source) scales(n int) (q, inverse api.QMat) {
	var list, turned []api.Frac
	for range n {
		num, den := s.NotZero(), s.NotZero()
		list = append(list, lowest(api.Frac{Num: num, Den: den}))
		turned = append(turned, lowest(api.Frac{Num: den, Den: num}))
	}
	return diagonal(list), diagonal(turned)
}

// mix is a square matrix and its inverse: a unimodular one between two diagonal ones.
func (s *source) mix(n int) (q, inverse api.QMat) {
	u, ofU, _ := s.Unimodular(n)
	left, ofLeft := s.scales(n)
	right, ofRight := s.scales(n)
	return product(left, overOne(u), right), product(ofRight, overOne(ofU), ofLeft)
}

// overOne is a with each entry over 1.
func overOne(a api.Mat) api.QMat {
	q := api.QMat{Rows: a.Rows, Cols: a.Cols}
	for _, n := range a.At {
		q.At = append(q.At, api.Frac{Num: n, Den: num(1)})
	}
	return q
}

// disguised are the same fractions in other terms, with zero words at the high end, with a sign beside 0.
func (s *source) disguised(list []api.Frac) []api.Frac {
	var all []api.Frac
	for i, f := range list {
		times := s.NotZero()
		pair := api.Mat{Rows: 1, Cols: 2, At: []api.Int{zint.Mul(f.Num, times), zint.Mul(f.Den, times)}}
		if i%2 == 1 {
			pair = made.Disguised(pair)
		}
		all = append(all, api.Frac{Num: pair.At[0], Den: pair.At[1]})
	}
	return all
}

// disguise is the same matrix in other terms.
func (s *source) disguise(q api.QMat) api.QMat {
	return api.QMat{Rows: q.Rows, Cols: q.Cols, At: s.disguised(q.At)}
}

// wordsFor is how many words the numbers of matrices with so many rows may have: of large ones small numbers will do.
func wordsFor(n int) int {
	return min(2, 8/(n+1))
}

// P17.3: of a form whose rows are mixed the form comes back.
func TestFormsComeBack(t *testing.T) {
	for _, rows := range []int{1, 2, 3, 5, 8, 14} {
		for _, cols := range []int{1, 2, 3, 5, 8, 14} {
			for part := range 4 {
				s := newSource(wordsFor(max(rows, cols)), uint64(10000*rows+100*cols+part))
				holdMixed(t, s, rows, cols, min(rows, cols)*part/3)
			}
		}
	}
	for _, c := range [][3]int{{64, 64, 64}, {64, 64, 40}, {64, 64, 1}, {64, 64, 0}, {64, 20, 20}, {20, 64, 13}, {64, 1, 1}, {1, 64, 1}} {
		holdMixed(t, newSource(0, uint64(c[2])), c[0], c[1], c[2])
	}
}

// holdMixed makes such a matrix of this rank.
func holdMixed(t *testing.T, s *source, rows, cols, rank int) {
	t.Helper()
	columns := s.Places(rank, cols)
	want := s.echelon(rows, cols, columns)
	mix, _ := s.mix(rows)
	holdForm(t, s.disguise(product(mix, want)), want, columns)
	holdForm(t, s.disguise(want), want, columns)
}

// across is the matrix whose kernel is k, a reduced echelon form without zero rows: for each column without a first one it has one.
func across(k api.QMat) api.QMat {
	columns := leads(k)
	q := api.QMat{Rows: k.Cols, Cols: k.Cols - k.Rows}
	for i := range k.Cols {
		line := slices.Index(columns, i)
		for j := range k.Cols {
			switch {
			case slices.Contains(columns, j):
			case line >= 0:
				q.At = append(q.At, lessOf(check.Over(0, 1), k.At[line*k.Cols+j]))
			case i == j:
				q.At = append(q.At, check.Over(1, 1))
			default:
				q.At = append(q.At, check.Over(0, 1))
			}
		}
	}
	return q
}

// P17.4 and P17.5: of a matrix that is made for a kernel that kernel comes back, and each solution that is 0 at its first ones.
func TestKernelsAndSolutionsComeBack(t *testing.T) {
	for _, rows := range []int{1, 2, 3, 4, 5, 8, 14} {
		for part := range 4 {
			for more := range 3 {
				s := newSource(wordsFor(rows), uint64(1000*rows+10*part+more))
				free := rows * part / 3
				holdMadeKernel(t, s, rows, free, rows-free+more)
			}
		}
	}
	for _, c := range [][3]int{{64, 0, 64}, {64, 20, 44}, {64, 20, 50}, {64, 63, 64}, {64, 64, 3}, {20, 3, 64}} {
		holdMadeKernel(t, newSource(0, uint64(c[1])), c[0], c[1], c[2])
	}
}

// holdMadeKernel makes such a matrix with so many rows in its kernel and so many columns: those that are more than its rank have no first one, and there b is put out of reach.
func holdMadeKernel(t *testing.T, s *source, rows, free, cols int) {
	t.Helper()
	places := s.Places(free, rows)
	kernel := s.echelon(free, rows, places)
	rank := rows - free
	reached := s.Places(rank, cols)
	mix, _ := s.mix(rank)
	q := product(across(kernel), mix, s.echelon(rank, cols, reached))
	holdKernel(t, s.disguise(q), kernel)
	x := s.list(rows)
	for _, place := range places {
		x[place] = check.Over(0, 1)
	}
	b := times(x, q)
	holdSolve(t, s.disguise(q), s.disguised(b), x)
	for c := range cols {
		if slices.Contains(reached, c) {
			continue
		}
		moved := slices.Clone(b)
		moved[c] = plusOf(moved[c], check.Over(1, 3))
		got, e := rref.Solve(s.disguise(q), s.disguised(moved))
		holdRefusal(t, of(fmt.Sprint("Solve, moved in column ", c), q), got, e, api.ErrNone)
	}
}

// P17.6: matrices whose inverse is known, and such as have one row too few.
func TestMadeInverses(t *testing.T) {
	for _, n := range []int{1, 2, 3, 4, 5, 8, 13, 24, 64} {
		s := newSource(wordsFor(n), uint64(n))
		q, want := s.mix(n)
		holdInverse(t, s.disguise(q), want)
		if n > 30 {
			continue
		}
		holdInverse(t, s.disguise(want), q)
		cut := unitOf(n)
		cut.At[n/2*(n+1)] = check.Over(0, 1)
		other, _ := s.mix(n)
		broken := s.disguise(product(q, cut, other))
		got, e := inverse(broken)
		holdRefusal(t, of("Inverse", broken), got, e, api.ErrNone)
	}
}

// choose is how many ways there are to choose k out of n.
func choose(n, k int) api.Int {
	ways := zint.Of(1)
	for i := range k {
		ways, _ = zint.Exact(zint.Mul(ways, num(n-i)), num(i+1))
	}
	return ways
}

// P17.6: the matrix of 1/1, 1/2, 1/3 .. moved by one in each row, whose inverse is known by a rule.
func TestInverseByRule(t *testing.T) {
	for _, n := range []int{1, 2, 3, 7, 16, 30} {
		q, want := api.QMat{Rows: n, Cols: n}, api.QMat{Rows: n, Cols: n}
		for i := range n {
			for j := range n {
				q.At = append(q.At, check.Over(1, i+j+1))
				entry := zint.Mul(num(i+j+1), zint.Mul(choose(n+i, n-j-1), choose(n+j, n-i-1)))
				entry = zint.Mul(entry, zint.Mul(choose(i+j, i), choose(i+j, i)))
				if (i+j)%2 == 1 {
					entry = zint.Neg(entry)
				}
				want.At = append(want.At, api.Frac{Num: entry, Den: num(1)})
			}
		}
		holdInverse(t, q, want)
		if n < 10 {
			holdInverse(t, want, q)
		}
	}
}
