package bareiss_test

import (
	"slices"
	"testing"

	"trellis/api"
	"trellis/bareiss"
	"trellis/check"
	"trellis/made"
	"trellis/mat"
	"trellis/modp"
	"trellis/zint"
)

// corner is the matrix of the first k rows and columns.
func corner(a api.Mat, k int) api.Mat {
	part, _ := mat.Pick(a, first(k), first(k))
	return part
}

// leadingOf are the determinants of all corners.
func leadingOf(a api.Mat) []api.Int {
	var all []api.Int
	for k := range a.Rows + 1 {
		all = append(all, made.Det(corner(a, k)))
	}
	return all
}

// P13.1 and P13.5: integers of many sizes and both signs, in least form or not, by all ways to pick entries.
func TestIntegers(t *testing.T) {
	all := check.Integers()
	for n := range 6 {
		for from := range len(all) {
			a := check.Filled(n, n, slices.Concat(all[from:], all[:from]))
			holdLeading(t, a, leadingOf(a))
		}
	}
}

// P13.1 to P13.5: each integer, and each zero, as a matrix of one row and column.
func TestSingles(t *testing.T) {
	for _, n := range append(check.Integers(), check.Zeros()...) {
		a := api.Mat{Rows: 1, Cols: 1, At: []api.Int{n}}
		holdLeading(t, a, []api.Int{num(1), zint.Least(n)})
		if zint.Sign(n) == 0 {
			holdCore(t, a, nil, nil, num(1))
		} else {
			holdCore(t, a, first(1), first(1), zint.Least(n))
		}
	}
}

// P13.2 to P13.4: zeros in every form are no pivots.
func TestZeros(t *testing.T) {
	for _, shape := range [][2]int{{1, 1}, {2, 3}, {3, 2}, {8, 8}, {64, 64}, {64, 1}, {1, 64}} {
		a := check.Filled(shape[0], shape[1], check.Zeros())
		holdCore(t, a, nil, nil, num(1))
		if shape[0] == shape[1] {
			holdLeading(t, a, append(nums(1), make([]api.Int, shape[0])...))
		}
		last := len(a.At) - 1
		a.At[last] = minus(0, 3, 0)
		holdCore(t, a, []int{shape[0] - 1}, []int{shape[1] - 1}, minus(0, 3))
	}
}

// detOf is what Det answers.
func detOf(t *testing.T, a api.Mat) api.Int {
	t.Helper()
	d, e := bareiss.Det(a)
	check.Same(t, of("Det", a), e, api.OK)
	return d
}

// P13.1: a product's determinant is the product of the determinants; a turned matrix has the same; a row changed for a multiple of it changes it so.
func TestLawsOfDet(t *testing.T) {
	for _, n := range []int{0, 1, 2, 3, 6, 12, 25} {
		for words := range 3 {
			s := newSource(words, uint64(1000*n))
			a, b := s.Whole(n, n), s.Whole(n, n)
			det := detOf(t, a)
			holdDet(t, product(a, b), zint.Mul(det, detOf(t, b)))
			turned, _ := mat.Turn(a)
			holdDet(t, turned, det)
			for i := range min(n, 2) {
				times := s.Next()
				other, _ := mat.Least(a)
				for j := range n {
					other.At[i*n+j] = zint.Mul(times, other.At[i*n+j])
				}
				holdDet(t, other, zint.Mul(times, det))
			}
		}
	}
}

// P5: modulo each prime it is what modp.Det answers.
func TestDetModuloPrimes(t *testing.T) {
	for _, n := range []int{2, 5, 17, 40, 64} {
		a := newSource(1, uint64(n)).Whole(n, n)
		d := detOf(t, a)
		for _, p := range []uint64{2, 3, 65537, 2147483629, 2147483647} {
			rest, _ := zint.Mod(d, plus(p))
			want, _ := modp.Det(a, p)
			check.Int(t, of("Det modulo a prime", a), rest, zint.Of(int64(want)))
		}
	}
}

// P13.3 and P13.4: turned, rows and columns change their parts; the core's determinant is Det of the core, and Leading's numbers are Det of the corners.
func TestLawsOfCore(t *testing.T) {
	for _, shape := range [][2]int{{1, 1}, {2, 2}, {3, 5}, {5, 3}, {7, 7}, {12, 12}, {30, 9}, {9, 30}} {
		for rank := range min(shape[0], shape[1]) + 1 {
			s := newSource(rank%3, uint64(rank))
			a := s.OfRank(shape[0], shape[1], rank)
			rows, cols, d, e := bareiss.Core(a)
			check.Same(t, of("Core", a), e, api.OK)
			turned, _ := mat.Turn(a)
			holdCore(t, turned, cols, rows, d)
			core, e := mat.Pick(a, rows, cols)
			check.Same(t, of("the places of the core", a), e, api.OK)
			holdDet(t, core, d)
			holdCore(t, core, first(len(rows)), first(len(rows)), d)
			if shape[0] == shape[1] {
				list, e := bareiss.Leading(a)
				check.Same(t, of("Leading", a), e, api.OK)
				check.Same(t, of("how many Leading lists", a), len(list), shape[0]+1)
				for k, det := range list {
					holdDet(t, corner(a, k), det)
				}
			}
		}
	}
}

// powers is the matrix whose row i has the powers of i, the power 0 first, and its leading determinants: the products of all differences of the rows' numbers.
func powers(n int) (a api.Mat, leading []api.Int) {
	a = api.Mat{Rows: n, Cols: n}
	leading = nums(1)
	det := num(1)
	for i := range n {
		power := num(1)
		for range n {
			a.At = append(a.At, power)
			power = zint.Mul(power, num(i))
		}
		for j := range i {
			det = zint.Mul(det, num(i-j))
		}
		leading = append(leading, det)
	}
	return a, leading
}

// sums is the matrix of ones at the top and at the left, and of the sum of the two neighbours elsewhere: all leading determinants are 1.
func sums(n int) (a api.Mat, leading []api.Int) {
	a = check.Filled(n, n, nums(1))
	for i := 1; i < n; i++ {
		for j := 1; j < n; j++ {
			a.At[i*n+j] = zint.Add(a.At[(i-1)*n+j], a.At[i*n+j-1])
		}
	}
	return a, check.Filled(1, n+1, nums(1)).At
}

// backwards is the matrix with the rows of a in the other order, and its determinant.
func backwards(a api.Mat, det api.Int) (api.Mat, api.Int) {
	order := first(a.Rows)
	for i := range order {
		order[i] = a.Rows - 1 - i
	}
	other, _ := mat.Pick(a, order, first(a.Cols))
	if made.IsOdd(order) {
		det = zint.Neg(det)
	}
	return other, det
}

// P13.1 to P13.5 at matrices of 64 rows whose determinants are known by a rule.
func TestLargeByRule(t *testing.T) {
	for _, byRule := range []func(n int) (api.Mat, []api.Int){powers, sums} {
		for _, n := range []int{2, 9, 30, 64} {
			a, leading := byRule(n)
			holdLeading(t, a, leading)
			holdCore(t, a, first(n), first(n), leading[n])
			other, det := backwards(a, leading[n])
			holdDet(t, other, det)
		}
	}
}

// P13.2 to P13.4: 64 rows that are all one row hang on the first of them.
func TestLargeOfOneRow(t *testing.T) {
	a := check.Filled(64, 64, nums(3))
	holdCore(t, a, first(1), first(1), num(3))
	holdDet(t, a, num(0))
	a.At[64*64-1] = num(5)
	holdCore(t, a, []int{0, 63}, []int{0, 63}, num(6))
}
