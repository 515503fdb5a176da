package snf_test

import (
	"slices"
	"testing"

	"trellis/api"
	"trellis/bareiss"
	"trellis/bezout"
	"trellis/check"
	"trellis/made"
	"trellis/mat"
	"trellis/minors"
	"trellis/snf"
	"trellis/zint"
)

// someMatrices are of many shapes and all ranks, with numbers of many lengths.
func someMatrices() []api.Mat {
	var all []api.Mat
	for _, shape := range [][2]int{{1, 1}, {1, 4}, {4, 1}, {2, 2}, {3, 3}, {3, 5}, {5, 3}, {6, 6}, {9, 4}, {4, 9}, {12, 12}} {
		for rank := range min(shape[0], shape[1]) + 1 {
			s := made.Source{Words: rank % 3, Seed: uint64(100*shape[0] + 10*shape[1] + rank)}
			all = append(all, s.OfRank(shape[0], shape[1], rank), s.Smith(shape[0], shape[1], s.Chain(rank)))
		}
	}
	return all
}

// P20.1 to P20.3 and P20.7: unimodular matrices on both sides, another order, other signs, and rows and columns that change places leave the form as it is.
func TestSameForm(t *testing.T) {
	for i, a := range someMatrices() {
		d := holdAll(t, a)
		holdForm(t, made.Disguised(a), d)
		check.Mat(t, of("D of Full", made.Disguised(a)), holdFull(t, made.Disguised(a)).D, d)
		s := made.Source{Words: i % 3, Seed: uint64(i)}
		left, _, _ := s.Unimodular(a.Rows)
		right, _, _ := s.Unimodular(a.Cols)
		for _, other := range []api.Mat{product(left, a), product(a, right), product(left, a, right)} {
			holdForm(t, other, d)
			holdSame(t, a, other, true)
		}
		order, _ := mat.Pick(a, s.Order(a.Rows), s.Order(a.Cols))
		holdForm(t, order, d)
		turned, _ := mat.Scale(num(-1), a)
		holdForm(t, turned, d)
		holdForm(t, made.Turned(a), made.Turned(d))
	}
}

// P20.1 and P20.7: times a number each number of the form is taken, and but for zeros the form is another; lines of zeros, and copies of lines, add zeros.
func TestOtherForm(t *testing.T) {
	for i, a := range someMatrices() {
		d, _ := snf.Form(a)
		s := made.Source{Words: i % 3, Seed: uint64(i)}
		times := zint.Mul(s.NotZero(), num(-2))
		more, _ := mat.Scale(times, a)
		want, _ := mat.Scale(zint.Abs(times), d)
		holdForm(t, more, want)
		rank, _ := bareiss.Rank(a)
		holdSame(t, more, a, rank == 0)
		taller, _ := mat.Stack(a, product(s.Whole(2, a.Rows), a))
		holdForm(t, taller, diagOf(a.Rows+2, a.Cols, diagonal(d)[:rank]))
		wider, _ := mat.Beside(check.Filled(a.Rows, 2, nums(0)), a)
		holdForm(t, wider, diagOf(a.Rows, a.Cols+2, diagonal(d)[:rank]))
		holdSame(t, taller, a, false)
		holdSame(t, wider, a, false)
	}
}

// P20.4 and the whole's P4: as layer 14 tells the divisors of the minors, wherever it does.
func TestDivisorsOfMinors(t *testing.T) {
	answered := 0
	for _, a := range someMatrices() {
		divisors, e := snf.Divisors(a)
		check.Same(t, of("Divisors", a), e, api.OK)
		check.Same(t, of("how many Divisors", a), len(divisors), min(a.Rows, a.Cols)+1)
		rank, _ := bareiss.Rank(a)
		for k, n := range divisors {
			check.Same(t, of("is it beyond the rank", a), zint.Sign(n) == 0, k > rank)
			shared, e := minors.Gcd(a, k)
			if e == api.OK {
				check.Int(t, of("Divisors", a), n, shared)
				answered++
			}
		}
		if a.Rows == a.Cols {
			det, _ := bareiss.Det(a)
			check.Int(t, of("the last of Divisors", a), divisors[a.Rows], zint.Abs(det))
		}
	}
	check.Same(t, "are there many that layer 14 tells", answered > 150, true)
}

// The whole's P4 and P10: the compound matrices of U, a and V multiply to that of D, and the first number of its form is the divisor of the minors.
func TestCompounds(t *testing.T) {
	for _, a := range someMatrices() {
		if max(a.Rows, a.Cols) > 6 {
			continue
		}
		full := holdFull(t, a)
		divisors, _ := snf.Divisors(a)
		for k, n := range divisors {
			var parts []api.Mat
			for _, part := range []api.Mat{full.U, a, full.V, full.D} {
				compound, e := minors.Compound(part, k)
				check.Same(t, of("Compound", part), e, api.OK)
				parts = append(parts, compound)
			}
			check.Mat(t, of("compound matrices of U, a and V", a), product(parts[0], parts[1], parts[2]), parts[3])
			factors, _ := snf.Factors(parts[1])
			check.Int(t, of("first number of a compound matrix", a), factors[0], n)
			holdSame(t, parts[1], parts[3], true)
		}
	}
}

// P20.2: U and V are unimodular.
func TestFullIsUnimodular(t *testing.T) {
	for _, a := range someMatrices() {
		full := holdFull(t, a)
		for _, part := range []api.Mat{full.U, full.V, full.Ui, full.Vi} {
			det, e := bareiss.Det(part)
			check.Same(t, of("Det", part), e, api.OK)
			check.Int(t, of("size of a determinant of Full", a), zint.Abs(det), num(1))
		}
	}
}

// P20.3: in blocks on the diagonal, all numbers together make the chain.
func TestBlocks(t *testing.T) {
	all := someMatrices()
	for i, a := range all {
		b := all[(7*i+3)%len(all)]
		whole, _ := mat.Zero(a.Rows+b.Rows, a.Cols+b.Cols)
		for k, n := range a.At {
			whole.At[k/a.Cols*whole.Cols+k%a.Cols] = n
		}
		for k, n := range b.At {
			whole.At[(a.Rows+k/b.Cols)*whole.Cols+a.Cols+k%b.Cols] = n
		}
		ofA, _ := snf.Factors(a)
		ofB, _ := snf.Factors(b)
		// Where the shapes are unlike there are more zeros than the two have.
		zeros := make([]api.Int, min(whole.Rows, whole.Cols)-len(ofA)-len(ofB))
		factors, e := snf.Factors(whole)
		check.Same(t, of("Factors", whole), e, api.OK)
		check.Ints(t, of("Factors", whole), factors, snf.Chain(slices.Concat(ofA, ofB, zeros)))
	}
}

// P20.1: a single row, or a single column, has the greatest common divisor.
func TestSingleLines(t *testing.T) {
	all := check.Integers()
	for from := range len(all) {
		column := check.Filled(5, 1, slices.Concat(all[from:], all[:from]))
		want := diagOf(5, 1, []api.Int{bezout.GcdAll(column.At)})
		check.Mat(t, of("a column", column), holdAll(t, column), want)
		line := api.Mat{Rows: 1, Cols: 5, At: column.At}
		check.Mat(t, of("a row", line), holdAll(t, line), made.Turned(want))
	}
}

// P20.1 to P20.5: integers of many sizes and both signs, in least form or not.
func TestIntegers(t *testing.T) {
	all := check.Integers()
	for n := range 5 {
		for from := 0; from < len(all); from += 3 {
			list := slices.Concat(all[from:], all[:from])
			for _, cols := range []int{n, n + 2, max(0, n-2)} {
				holdAll(t, check.Filled(n, cols, list))
			}
		}
	}
}
