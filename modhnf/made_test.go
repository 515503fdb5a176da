package modhnf_test

import (
	"testing"

	"trellis/api"
	"trellis/check"
	"trellis/made"
	"trellis/mat"
	"trellis/zint"
)

// shapesAndRanks are shapes of up to 64 rows and columns, with ranks.
func shapesAndRanks() [][3]int {
	var all [][3]int
	for _, rows := range []int{1, 2, 3, 5, 8, 14} {
		for _, cols := range []int{1, 2, 3, 5, 8, 14} {
			for part := range 4 {
				all = append(all, [3]int{rows, cols, min(rows, cols) * part / 3})
			}
		}
	}
	return append(all, [3]int{64, 64, 64}, [3]int{64, 64, 63}, [3]int{64, 64, 30}, [3]int{64, 64, 1}, [3]int{64, 64, 0}, [3]int{64, 20, 20}, [3]int{20, 64, 20}, [3]int{64, 20, 11}, [3]int{20, 64, 11}, [3]int{64, 1, 1}, [3]int{1, 64, 1})
}

// P19.2 and P19.3: of a form whose rows are mixed the form comes back.
func TestFormsComeBack(t *testing.T) {
	for _, shape := range shapesAndRanks() {
		s := made.SourceFor(shape)
		rows, cols, rank := shape[0], shape[1], shape[2]
		want := s.Hermite(rows, cols, s.Places(rank, cols))
		mix, _, _ := s.Unimodular(rows)
		holdForm(t, made.Disguised(product(mix, want)), want)
		holdForm(t, made.Disguised(want), want)
	}
}

// P19.1: a basis with its pivots on the diagonal comes back from its mixed rows at every multiple of its pivots' product; rows that were left out come back where d puts them in.
func TestBasesComeBack(t *testing.T) {
	for _, n := range []int{1, 2, 3, 5, 8, 14, 40, 64} {
		s := made.SourceFor([3]int{n, n, 0})
		want := s.Hermite(n, n, first(n))
		mix, _, _ := s.Unimodular(n)
		rows := made.Disguised(product(mix, want))
		d := zint.Mul(pivotsProduct(want), s.NotZero())
		holdModulo(t, rows, d, want)
		// Of half of the rows of a form whose other pivots are d, and have zeros beside and above them.
		half := n / 2
		upper := s.Hermite(half, half, first(half))
		d = zint.Mul(pivotsProduct(upper), s.NotZero())
		zeros, _ := mat.Zero(half, n-half)
		wide, _ := mat.Beside(upper, zeros)
		lower, _ := mat.Beside(made.Turned(zeros), multiples(zint.Abs(d), n-half))
		whole, _ := mat.Stack(wide, lower)
		some, _, _ := s.Unimodular(half)
		holdModulo(t, product(some, wide), d, whole)
	}
}

// P19.4: of a square matrix that is made of unimodular ones and a diagonal Multiple and Volume are the product of the diagonal.
func TestVolumesComeBack(t *testing.T) {
	for _, n := range []int{0, 1, 2, 3, 5, 8, 14, 30} {
		s := made.SourceFor([3]int{max(n, 1), 1, 0})
		list := s.Chain(n)
		whole := num(1)
		for _, k := range list {
			whole = zint.Mul(whole, k)
		}
		a := made.Disguised(s.Smith(n, n, list))
		holdVolume(t, a, whole)
		holdMultiple(t, a, whole)
		u, _, _ := s.Unimodular(n)
		holdForm(t, made.Disguised(u), multiples(num(1), n))
		holdMultiple(t, u, num(1))
	}
}

// P19.2: rows of one number each, in any order, with any signs.
func TestFormOfOrders(t *testing.T) {
	for _, n := range []int{1, 2, 3, 5, 20, 64} {
		for seed := range 4 {
			s := made.Source{Seed: uint64(seed)}
			a, _ := mat.Zero(n, n)
			h, _ := mat.Zero(n, n)
			for i, j := range s.Order(n) {
				number := num(2 + i)
				h.At[j*n+j] = number
				a.At[i*n+j] = number
				if s.Word()%2 == 0 {
					a.At[i*n+j] = zint.Neg(number)
				}
			}
			holdForm(t, a, h)
			holdMultiple(t, a, pivotsProduct(h))
		}
	}
}

// powers is the matrix whose row i has the powers of i, the power 0 first: its form has the factorials on its diagonal.
func powers(n int) api.Mat {
	a := api.Mat{Rows: n, Cols: n}
	for i := range n {
		power := num(1)
		for range n {
			a.At = append(a.At, power)
			power = zint.Mul(power, num(i))
		}
	}
	return a
}

// P19.2 to P19.4 at matrices that are known by a rule, and at such as have numbers of a word everywhere.
func TestLarge(t *testing.T) {
	for _, n := range []int{2, 9, 30} {
		h := holdRoads(t, powers(n))
		factorial, whole := num(1), num(1)
		for i := range n {
			factorial = zint.Mul(factorial, num(max(i, 1)))
			check.Int(t, of("pivot of the powers", h), h.At[i*n+i], factorial)
			whole = zint.Mul(whole, factorial)
		}
		holdMultiple(t, powers(n), whole)
	}
	same := check.Filled(64, 64, nums(3))
	want := check.Filled(64, 64, nums(0))
	copy(want.At, same.At[:64])
	holdForm(t, same, want)
	s := made.Source{Words: 1, Seed: 1}
	for _, a := range []api.Mat{s.Whole(64, 64), s.OfRank(64, 64, 20), s.Whole(64, 10), s.Whole(10, 64), s.Whole(30, 40)} {
		holdRoads(t, a)
	}
}

// P19.1: as many rows as a matrix may have, d times the unit matrix would be more than one may have.
func TestModuloLarge(t *testing.T) {
	s := made.Source{Words: 1, Seed: 2}
	for _, shape := range [][2]int{{64, 64}, {64, 20}, {20, 64}, {64, 1}, {1, 64}, {0, 64}} {
		a := s.Whole(shape[0], shape[1])
		for _, d := range []api.Int{num(1), num(2), num(5040), plus(0, 1), s.NotZero()} {
			holdModulo(t, a, d, stacked(t, a, d))
		}
	}
	diagonal := multiples(num(6), 64)
	holdModulo(t, diagonal, num(4), multiples(num(2), 64))
	holdModulo(t, check.Filled(64, 64, nums(0)), minus(0, 7), multiples(plus(0, 7), 64))
}
