package hnf_test

import (
	"testing"

	"trellis/api"
	"trellis/check"
	"trellis/hnf"
	"trellis/made"
	"trellis/mat"
	"trellis/zint"
)

// shapesAndRanks are shapes of up to 64 rows and columns, with ranks.
func shapesAndRanks() [][3]int {
	var all [][3]int
	for _, rows := range []int{1, 2, 3, 5, 8, 14} {
		for _, cols := range []int{1, 2, 3, 5, 8, 14} {
			for part := range 4 {
				all = append(all, [3]int{rows, cols, min(rows, cols) * part / 3})
			}
		}
	}
	return append(all, [3]int{64, 64, 64}, [3]int{64, 64, 63}, [3]int{64, 64, 30}, [3]int{64, 64, 1}, [3]int{64, 64, 0}, [3]int{64, 20, 20}, [3]int{20, 64, 20}, [3]int{64, 20, 11}, [3]int{20, 64, 11}, [3]int{64, 1, 1}, [3]int{1, 64, 1})
}

// P18.1 to P18.3: of a form whose rows are mixed the form comes back.
func TestFormsComeBack(t *testing.T) {
	for _, shape := range shapesAndRanks() {
		s := made.SourceFor(shape)
		rows, cols, rank := shape[0], shape[1], shape[2]
		want := s.Hermite(rows, cols, s.Places(rank, cols))
		mix, _, _ := s.Unimodular(rows)
		a := made.Disguised(product(mix, want))
		holdForm(t, a, want)
		check.Mat(t, of("H of Full", a), holdFull(t, a).H, want)
		holdForm(t, made.Disguised(want), want)
	}
}

// P18.4: a reduced row and multiples of the form's rows come back.
func TestRestsComeBack(t *testing.T) {
	for _, shape := range shapesAndRanks() {
		s := made.SourceFor(shape)
		rows, cols, rank := shape[0], shape[1], shape[2]
		pivots := s.Places(rank, cols)
		h := s.Hermite(rows, cols, pivots)
		rest, c := s.Whole(1, cols), make([]api.Int, rows)
		for i, col := range pivots {
			rest.At[col], _ = zint.Mod(rest.At[col], h.At[i*cols+col])
			c[i] = s.Next()
		}
		sum, _ := mat.VecMul(c, h)
		v, _ := mat.Add(api.Mat{Rows: 1, Cols: cols, At: sum}, rest)
		holdReduce(t, made.Disguised(h), made.Disguised(v).At, rest.At, c)
	}
}

// P18.5: a basis of which one row, mixed with the others, was left out or taken too often, comes back when it is put in.
func TestInsertsComeBack(t *testing.T) {
	for _, shape := range shapesAndRanks() {
		s := made.SourceFor(shape)
		cols, rank := shape[1], shape[2]
		if rank == 0 {
			continue
		}
		want := s.Hermite(rank, cols, s.Places(rank, cols))
		mix, _, _ := s.Unimodular(rank)
		rows := product(mix, want)
		last := rows.At[(rank-1)*cols:]
		for _, times := range []int{0, 1, 6} {
			fewer, _ := mat.Least(rows)
			for j := range cols {
				fewer.At[(rank-1)*cols+j] = zint.Mul(num(times), last[j])
			}
			begin, e := hnf.Form(fewer)
			check.Same(t, of("Form", fewer), e, api.OK)
			holdInsert(t, made.Disguised(begin), made.Disguised(api.Mat{Rows: 1, Cols: cols, At: last}).At, want)
		}
	}
}

// P18.2: of a unimodular matrix H is the unit matrix, U the inverse and W the matrix itself.
func TestFullOfUnimodular(t *testing.T) {
	for _, n := range []int{0, 1, 2, 3, 4, 7, 15, 40, 64} {
		s := made.SourceFor([3]int{max(n, 1), 1, 0})
		u, inverse, _ := s.Unimodular(n)
		full := holdFull(t, made.Disguised(u))
		check.Mat(t, of("H of Full", u), full.H, unitOf(n))
		check.Mat(t, of("U of Full", u), full.U, inverse)
		check.Mat(t, of("W of Full", u), full.W, u)
	}
}

// P18.1 and P18.2: rows of one number each, in any order, with any signs.
func TestFullOfOrders(t *testing.T) {
	for _, n := range []int{1, 2, 3, 5, 20, 64} {
		for seed := range 4 {
			s := made.Source{Seed: uint64(seed)}
			a, _ := mat.Zero(n, n)
			u, _ := mat.Zero(n, n)
			h, _ := mat.Zero(n, n)
			for i, j := range s.Order(n) {
				number, sign := num(2+i), num(1)
				if s.Word()%2 == 0 {
					sign = num(-1)
				}
				a.At[i*n+j] = zint.Mul(number, sign)
				h.At[j*n+j] = number
				u.At[j*n+i] = sign
			}
			holdForm(t, a, h)
			full := holdFull(t, a)
			check.Mat(t, of("H of Full", a), full.H, h)
			check.Mat(t, of("U of Full", a), full.U, u)
			check.Mat(t, of("W of Full", a), full.W, made.Turned(u))
		}
	}
}

// P18.2: of rows that are combinations of the unit rows below them the kernel is known: it takes each of them and undoes its combination.
func TestKernelsByRule(t *testing.T) {
	for _, c := range [][2]int{{1, 1}, {3, 2}, {2, 5}, {10, 6}, {40, 24}, {24, 40}, {63, 1}, {1, 63}, {0, 4}, {64, 0}} {
		some, rank := c[0], c[1]
		s := made.Source{Words: 1, Seed: uint64(some)}
		combinations := s.Whole(some, rank)
		a, _ := mat.Stack(combinations, unitOf(rank))
		full := holdFull(t, made.Disguised(a))
		check.Mat(t, of("H of Full", a), rowsFrom(full.H, 0, rank), unitOf(rank))
		undone, _ := mat.Scale(num(-1), combinations)
		want, _ := mat.Beside(unitOf(some), undone)
		check.Mat(t, of("kernel in U of Full", a), rowsFrom(full.U, rank, some+rank), want)
	}
}

// powers is the matrix whose row i has the powers of i, the power 0 first: its form has the factorials on its diagonal.
func powers(n int) api.Mat {
	a := api.Mat{Rows: n, Cols: n}
	for i := range n {
		power := num(1)
		for range n {
			a.At = append(a.At, power)
			power = zint.Mul(power, num(i))
		}
	}
	return a
}

// P18.1 and P18.2 at matrices of 64 rows: such as are known by a rule, and such as have numbers of a word everywhere.
func TestLarge(t *testing.T) {
	for _, n := range []int{2, 9, 30, 64} {
		full := holdFull(t, powers(n))
		factorial := num(1)
		for i := range n {
			factorial = zint.Mul(factorial, num(max(i, 1)))
			check.Int(t, of("pivot of the powers", full.H), full.H.At[i*n+i], factorial)
		}
	}
	same := check.Filled(64, 64, nums(3))
	want := check.Filled(64, 64, nums(0))
	copy(want.At, same.At[:64])
	holdForm(t, same, want)
	holdFull(t, same)
	s := made.Source{Words: 1, Seed: 1}
	for _, a := range []api.Mat{s.Whole(64, 64), s.OfRank(64, 64, 40), s.Whole(64, 10), s.Whole(10, 64)} {
		holdForm(t, a, holdFull(t, a).H)
	}
}
