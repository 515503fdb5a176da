package manydet_test

import (
	"fmt"
	"math"
	"slices"
	"testing"

	"trellis/api"
	"trellis/check"
	"trellis/made"
	"trellis/manydet"
	"trellis/mat"
	"trellis/zint"
)

// The integers, rows and matrices of the tests.
var (
	num, nums   = check.Num, check.Nums
	plus, minus = check.Plus, check.Minus
	row, mx     = check.Row, check.Matrix
	first       = made.First
	product     = made.Product
)

// The two greatest primes that there are.
const (
	greatest = 2147483647
	next     = 2147483629
)

// of names a call in a test's report.
func of(name string, a api.Mat, others ...any) string {
	if len(a.At) > 30 {
		return fmt.Sprintf("%s of %d by %d", name, a.Rows, a.Cols)
	}
	return fmt.Sprintf("%s(%v) %v", name, a, others)
}

// few are numbers of workers that most tests go through.
func few() []int { return []int{1, 3, 16} }

// all are all numbers of workers that there may be.
func all() []int {
	list := first(api.MaxWorkers)
	for i := range list {
		list[i]++
	}
	return list
}

// outside are numbers of workers that there may not be.
func outside() []int {
	return []int{0, -1, -16, 17, 18, 1 << 32, 1<<32 + 1, math.MinInt, math.MaxInt}
}

// anyNumber are numbers of workers that there may be, and such that there may not be.
func anyNumber() []int { return append(few(), outside()...) }

// holdBound, and those that follow, ask for an answer.
func holdBound(t *testing.T, a api.Mat, want api.Int) {
	t.Helper()
	got, e := manydet.Bound(a)
	check.Same(t, of("Bound", a), e, api.OK)
	check.Int(t, of("Bound", a), got, want)
}

func holdResidues(t *testing.T, a api.Mat, ps, want []uint64, workers ...int) {
	t.Helper()
	for _, w := range workers {
		got, e := manydet.Residues(a, ps, w)
		check.Same(t, of("Residues", a, ps, w), e, api.OK)
		check.Words(t, of("Residues", a, ps, w), got, want)
	}
}

func holdDet(t *testing.T, a api.Mat, want api.Int, workers ...int) {
	t.Helper()
	for _, w := range workers {
		got, e := manydet.Det(a, w)
		check.Same(t, of("Det", a, w), e, api.OK)
		check.Int(t, of("Det", a, w), got, want)
	}
}

func holdRank(t *testing.T, a api.Mat, want int, workers ...int) {
	t.Helper()
	for _, w := range workers {
		got, e := manydet.Rank(a, w)
		check.Same(t, of("Rank", a, w), e, api.OK)
		check.Same(t, of("Rank", a, w), got, want)
	}
}

func holdCramer(t *testing.T, a api.Mat, b, x []api.Int, d api.Int, workers ...int) {
	t.Helper()
	for _, w := range workers {
		gotX, gotD, e := manydet.Cramer(a, b, w)
		check.Same(t, of("Cramer", a, b, w), e, api.OK)
		check.Ints(t, of("Cramer", a, b, w), gotX, x)
		check.Int(t, of("Cramer's determinant", a, b, w), gotD, d)
	}
}

func holdNoCramer(t *testing.T, a api.Mat, b []api.Int, workers int, want api.Errno) {
	t.Helper()
	got, e := solver(b)(a, workers)
	holdRefusal(t, of("Cramer", a, b, workers), got, e, want)
}

// taker is a call on a matrix and a number of workers, what it answers told as a list of integers; a 0 alone is told as nothing.
type taker func(a api.Mat, workers int) ([]api.Int, api.Errno)

// alone is the list of one integer, or nothing.
func alone(n api.Int) []api.Int {
	if !n.Neg && len(n.Mag) == 0 {
		return nil
	}
	return []api.Int{n}
}

// residuer is Residues with these primes.
func residuer(ps ...uint64) taker {
	return func(a api.Mat, workers int) ([]api.Int, api.Errno) {
		residues, e := manydet.Residues(a, ps, workers)
		var list []api.Int
		for _, residue := range residues {
			list = append(list, zint.Of(int64(residue)))
		}
		return list, e
	}
}

// solver is Cramer with this b.
func solver(b []api.Int) taker {
	return func(a api.Mat, workers int) ([]api.Int, api.Errno) {
		x, d, e := manydet.Cramer(a, b, workers)
		return append(x, alone(d)...), e
	}
}

// fitting is Cramer with a b that goes with the matrix.
func fitting(a api.Mat, workers int) ([]api.Int, api.Errno) {
	return solver(check.Filled(1, min(max(a.Cols, 0), 70), nums(2, 0, -1)).At)(a, workers)
}

// squareOnly are the calls that refuse a matrix that is not square.
func squareOnly() map[string]taker {
	return map[string]taker{
		"Residues": residuer(greatest, 2, 5, 2), "Residues of no primes": residuer(), "Cramer": fitting,
		"Det": func(a api.Mat, workers int) ([]api.Int, api.Errno) {
			d, e := manydet.Det(a, workers)
			return alone(d), e
		},
	}
}

// takers are all calls that take a number of workers.
func takers() map[string]taker {
	calls := squareOnly()
	calls["Rank"] = func(a api.Mat, workers int) ([]api.Int, api.Errno) {
		rank, e := manydet.Rank(a, workers)
		return alone(num(rank)), e
	}
	return calls
}

// holdRefusal asks for an error with nothing beside it.
func holdRefusal(t *testing.T, call string, got []api.Int, e, want api.Errno) {
	t.Helper()
	check.Same(t, call, e, want)
	check.Ints(t, call+", beside the error", got, nil)
}

// noPrimes are numbers that are no primes below 2^31, some of them primes above it.
func noPrimes() []uint64 {
	return []uint64{0, 1, 4, 9, 15, 2147483641, 2147483645, 2147483646, 1 << 31, 2147483659, 1<<32 + 15, 1<<32 + 2, 1<<32 + 5, 1<<63 + 29, check.Top - 58, check.Top}
}

// unfitting are calls that more than the matrix is wrong with.
func unfitting() map[string]taker {
	return map[string]taker{
		"Residues of no prime": residuer(4), "Residues of large numbers": residuer(5, check.Top, 1<<31),
		"Cramer with nothing": solver(nil), "Cramer with one": solver(nums(1)), "Cramer with many": solver(make([]api.Int, 100)),
	}
}

// P15.1, P15.3 to P15.5: a matrix that is not sound is told first, whatever else is wrong.
func TestUnsound(t *testing.T) {
	for _, a := range check.Unsound() {
		got, e := manydet.Bound(a)
		holdRefusal(t, of("Bound", a), alone(got), e, api.ErrMat)
		for _, calls := range []map[string]taker{takers(), unfitting()} {
			for name, call := range calls {
				for _, w := range anyNumber() {
					got, e := call(a, w)
					holdRefusal(t, of(name, a, w), got, e, api.ErrMat)
				}
			}
		}
	}
}

// sizes are numbers of rows, or of columns.
func sizes() []int {
	return []int{0, 1, 2, 3, 5, 63, 64}
}

// P15.3 to P15.5 refuse each shape that is not square, with 0 in all places too, ahead of workers and primes that are none; Bound and Rank refuse no shape.
func TestNotSquare(t *testing.T) {
	for _, rows := range sizes() {
		for _, cols := range sizes() {
			for _, entries := range [][]api.Int{nums(0), nums(1, 0, -2)} {
				a := check.Filled(rows, cols, entries)
				_, e := manydet.Bound(a)
				check.Same(t, of("Bound", a), e, api.OK)
				_, e = manydet.Rank(a, 2)
				check.Same(t, of("Rank", a), e, api.OK)
				if rows != cols {
					holdNotSquare(t, a)
				}
			}
		}
	}
}

func holdNotSquare(t *testing.T, a api.Mat) {
	t.Helper()
	for _, calls := range []map[string]taker{squareOnly(), unfitting()} {
		for name, call := range calls {
			for _, w := range anyNumber() {
				got, e := call(a, w)
				holdRefusal(t, of(name, a, w), got, e, api.ErrFit)
			}
		}
	}
	// A b that goes with the rows, and one that goes with the columns.
	for _, length := range []int{a.Rows, a.Cols} {
		got, e := solver(make([]api.Int, length))(a, 1)
		holdRefusal(t, of("Cramer", a, length), got, e, api.ErrFit)
	}
}

// P15.5: a b of another length is told ahead of workers that are none, and of a determinant that is 0.
func TestUnfittingRow(t *testing.T) {
	for _, n := range sizes() {
		for _, entries := range [][]api.Int{nums(0), nums(1, 0, -2, 5, 3)} {
			a := check.Filled(n, n, entries)
			for _, length := range []int{0, 1, 2, 3, 4, 5, 6, 62, 63, 64, 65, 1000} {
				if length == n {
					continue
				}
				for _, w := range anyNumber() {
					holdNoCramer(t, a, check.Filled(1, length, nums(1, 0)).At, w, api.ErrFit)
				}
			}
		}
	}
}

// P15.3 to P15.5: a number of workers that there may not be is told ahead of what is no prime, and of a determinant that is 0; all others are taken.
func TestNumberOfWorkers(t *testing.T) {
	for _, n := range []int{0, 1, 2, 5, 64} {
		for _, entries := range [][]api.Int{nums(0), nums(1, 0, -2, 5, 3)} {
			a := check.Filled(n, n, entries)
			calls := takers()
			calls["Residues of no prime"] = residuer(4)
			calls["Residues of many"] = residuer(5, 7, check.Top)
			for name, call := range calls {
				for _, w := range outside() {
					got, e := call(a, w)
					holdRefusal(t, of(name, a, w), got, e, api.ErrArg)
				}
			}
			for _, w := range all() {
				_, e := manydet.Det(a, w)
				check.Same(t, of("Det", a, w), e, api.OK)
			}
		}
	}
	// Not square, Rank takes any matrix.
	for _, w := range outside() {
		got, e := takers()["Rank"](mx("1 2 3; 4 5 6"), w)
		holdRefusal(t, fmt.Sprint("Rank with workers ", w), got, e, api.ErrArg)
	}
}

// P15.3: what is no prime below 2^31 is told wherever it stands among primes, by any number of workers, and nothing beside it.
func TestNoPrimes(t *testing.T) {
	for _, a := range []api.Mat{mx("0x0"), mx("0"), mx("7"), mx("1 2; 3 4"), check.Filled(8, 8, nums(1, 0, 2))} {
		for _, n := range noPrimes() {
			for _, ps := range [][]uint64{{n}, {n, n, n}, {n, 5, 7}, {5, n, 7}, {5, 7, n}, append(check.Repeat(3, 40), n), append([]uint64{n}, check.Repeat(3, 40)...), {2, 3, 5, 7, n, greatest, 0, 11}} {
				for _, w := range few() {
					got, e := residuer(ps...)(a, w)
					holdRefusal(t, of("Residues", a, ps, w), got, e, api.ErrPrime)
				}
			}
		}
	}
}

// P15.5: no solution, where the determinant is 0, whatever b is.
func TestNoSolution(t *testing.T) {
	for _, text := range []string{"0", "0 0; 0 0", "1 1; 1 1", "1 2; 2 4", "0 0; 0 5", "0 5; 0 7", "1 2 3; 4 5 6; 7 8 9", "0 1 0; 0 0 1; 0 0 0", "1 0 0 0; 0 1 0 0; 0 0 1 0; 0 0 0 0"} {
		a := mx(text)
		for _, b := range [][]api.Int{nums(0), nums(1), nums(3, -1, 0), a.At} {
			for _, w := range few() {
				holdNoCramer(t, a, check.Filled(1, a.Cols, b).At, w, api.ErrNone)
			}
		}
	}
	for _, zero := range check.Zeros() {
		holdNoCramer(t, api.Mat{Rows: 1, Cols: 1, At: []api.Int{zero}}, nums(0), 2, api.ErrNone)
	}
	for _, n := range []int{5, 63, 64} {
		for _, broken := range []int{0, n / 2, n - 1} {
			a, _ := mat.Unit(n)
			a.At[broken*n+broken] = num(0)
			holdNoCramer(t, a, check.Filled(1, n, nums(0, 1)).At, 16, api.ErrNone)
		}
	}
}

// P15.2: each list is the beginning of that of all primes, from the top down.
func TestPrimes(t *testing.T) {
	const low = 1<<31 - 30000
	var want []uint64
	for i, prime := range check.Sieve(low, 1<<31) {
		if prime {
			want = append(want, uint64(low+i))
		}
	}
	slices.Reverse(want)
	for _, k := range []int{0, 1, 2, 3, 4, 5, 10, 15, 16, 17, 100, 511, 512, 1000, 1022, 1023, 1024} {
		got, e := manydet.Primes(k)
		check.Same(t, fmt.Sprint("Primes of ", k), e, api.OK)
		check.Words(t, fmt.Sprint("Primes of ", k), got, want[:k])
	}
	for _, k := range []int{-1, -2, -1024, math.MinInt, 1025, 1026, 2048, 1 << 32, 1<<32 + 5, math.MaxInt} {
		got, e := manydet.Primes(k)
		check.Same(t, fmt.Sprint("Primes of ", k), e, api.ErrArg)
		check.Words(t, fmt.Sprint("Primes of ", k), got, nil)
	}
}

// P15.1 at matrices whose bound is plain to see.
func TestBound(t *testing.T) {
	for _, c := range []struct {
		a    api.Mat
		want api.Int
	}{
		{mx("0x0"), num(1)}, {mx("0x64"), num(1)}, {mx("64x0"), num(1)}, {mx("0"), num(1)}, {mx("0 0; 0 0; 0 0"), num(1)},
		{mx("1"), num(1)}, {mx("-1"), num(1)}, {mx("7"), num(7)}, {mx("-7"), num(7)}, {mx("1 -2 3"), num(6)}, {mx("1; -2; 3"), num(6)}, {mx("0; -5; 0"), num(5)},
		{mx("0 0; 0 -3"), num(3)}, {mx("1 2; 3 4"), num(21)}, {mx("1 -1; -1 1"), num(4)}, {mx("-1 -2; -3 -4; 0 0; 5 0"), num(105)},
		{check.Filled(64, 64, nums(1)), plus(0, 0, 0, 0, 0, 0, 1)}, {check.Filled(64, 64, nums(-2, 2)), plus(0, 0, 0, 0, 0, 0, 0, 1)}, {check.Filled(64, 64, nums(0)), num(1)},
		{check.Filled(1, 8, check.Zeros()), num(1)}, {check.Filled(8, 1, check.Zeros()), num(1)},
		{api.Mat{Rows: 2, Cols: 2, At: []api.Int{minus(3, 0), plus(0, 0), minus(), plus(5, 0, 0)}}, num(15)},
		{api.Mat{Rows: 1, Cols: 2, At: []api.Int{plus(check.Top), minus(1)}}, plus(0, 1)},
		{api.Mat{Rows: 2, Cols: 1, At: []api.Int{minus(check.Top), minus(check.Top)}}, plus(1, check.Top-1)},
	} {
		holdBound(t, c.a, c.want)
	}
}
