package lll_test

import (
	"fmt"
	"testing"

	"trellis/api"
	"trellis/check"
	"trellis/lll"
	"trellis/made"
)

// taker is a call on a matrix, what it answers told as one list of integers; nothing is told of zero values.
type taker func(a api.Mat) ([]api.Int, api.Errno)

// told is a matrix as a list, and nothing for one without rows and columns.
func told(a api.Mat) []api.Int {
	var shape []api.Int
	if a.Rows != 0 || a.Cols != 0 {
		shape = nums(a.Rows, a.Cols)
	}
	return append(shape, a.At...)
}

// onOne are the calls on one matrix.
func onOne() map[string]taker {
	return map[string]taker{
		"Gram": func(a api.Mat) ([]api.Int, api.Errno) {
			gram, e := lll.Gram(a)
			return told(gram), e
		},
		"Dets": lll.Dets,
		"IsReduced": func(a api.Mat) ([]api.Int, api.Errno) {
			is, e := lll.IsReduced(a)
			if is {
				return nums(1), e
			}
			return nil, e
		},
		"Reduce": func(a api.Mat) ([]api.Int, api.Errno) {
			b, by, e := lll.Reduce(a)
			return append(told(b), told(by)...), e
		},
		"Shortest": func(a api.Mat) ([]api.Int, api.Errno) {
			line, square, e := lll.Shortest(a)
			if square.Neg || len(square.Mag) > 0 {
				line = append(line, square)
			}
			return line, e
		},
	}
}

// takers are all calls, with rows that fit where a has a number of columns that may be, and with such as do not.
func takers() map[string]taker {
	all := onOne()
	for _, more := range []int{0, 1, 200} {
		all[fmt.Sprint("Near with numbers more: ", more)] = func(a api.Mat) ([]api.Int, api.Errno) {
			return lll.Near(a, check.Filled(1, min(max(a.Cols, 0), 65)+more, nums(5, -3, 0)).At)
		}
	}
	all["Near of nil"] = func(a api.Mat) ([]api.Int, api.Errno) { return lll.Near(a, nil) }
	return all
}

// P23.1 to P23.6: a matrix that is not sound is told first, whatever else is wrong, with nothing beside the error.
func TestUnsound(t *testing.T) {
	for _, a := range check.Unsound() {
		for name, call := range takers() {
			got, e := call(a)
			holdRefusal(t, of(name, a), got, e, api.ErrMat)
		}
	}
}

// P23.5: rows of every other length are refused, also where the matrix's rows are not independent.
func TestRowsThatDoNotFit(t *testing.T) {
	for _, b := range append(made.Samples(), mx("3x0"), mx("0x64"), mx("1 0; 1 0")) {
		for count := range 67 {
			if count == b.Cols {
				continue
			}
			for _, numbers := range [][]api.Int{nums(0), nums(1), nums(5, -3, 0)} {
				v := check.Filled(1, count, numbers).At
				got, e := lll.Near(b, v)
				holdRefusal(t, at("Near", b, v), got, e, api.ErrFit)
			}
		}
	}
	got, e := lll.Near(mx("1 2"), nil)
	holdRefusal(t, "Near(1 2, nil)", got, e, api.ErrFit)
}

// P23.5: where the rows are not independent there is no answer, not to zeros and not to rows of the lattice either.
func TestRowsThatHangTogether(t *testing.T) {
	for _, text := range []string{
		"0", "0 0", "1x0", "3x0", "64x0", "1; 0", "0; 1", "1; 1", "2; 3", "1 0; 0 0", "0 0; 1 0", "1 2; 2 4", "1 2; -1 -2", "1 0; 0 1; 0 0", "1 0; 0 1; 1 1", "0 0; 1 0; 0 1", "1 0 0; 0 1 0; 1 1 0", "1 1 0; 1 -1 0; 2 0 0", "1 2 3; 4 5 6; 7 8 9", "1 2; 3 4; 5 6",
	} {
		b := mx(text)
		for _, numbers := range [][]api.Int{nums(0), nums(1, 2, 3), nums(5, -3, 0), check.Zeros()} {
			v := check.Filled(1, b.Cols, numbers).At
			for _, c := range []api.Mat{b, made.Disguised(b)} {
				got, e := lll.Near(c, v)
				holdRefusal(t, at("Near", c, v), got, e, api.ErrForm)
			}
		}
	}
}

// P23.6: of each rank up to 5 a shortest row is told, of rank 0 and of greater ones none is; how many rows and columns there are does not matter.
func TestRanks(t *testing.T) {
	for rank := range 9 {
		for _, shape := range [][2]int{{rank, rank}, {rank + 1, rank}, {rank, rank + 1}, {rank + 3, rank + 2}, {20, 20}, {64, 10}, {10, 64}} {
			s := made.Source{Seed: uint64(100*rank + shape[0])}
			a := s.Smith(shape[0], shape[1], check.Filled(1, rank, nums(1, 2)).At)
			switch {
			case rank == 0:
				holdNoShortest(t, a, api.ErrNone)
			case rank > api.MaxShort:
				holdNoShortest(t, a, api.ErrLarge)
			default:
				holdShortest(t, a)
			}
		}
	}
}

// R1: all calls answer at every sound matrix, and at rows that fit.
func TestSound(t *testing.T) {
	for _, a := range append(made.Samples(), mx("0x1"), mx("0x64"), mx("3x0"), mx("64x0"), mx("0 0 0"), mx("0; 0"), api.Mat{At: []api.Int{}}) {
		holdDets(t, a)
		holdIsReduced(t, a, isReducedByWords(a))
		holdReduce(t, a)
		rank := rankOf(a)
		switch {
		case rank == 0:
			holdNoShortest(t, a, api.ErrNone)
		case rank <= api.MaxShort:
			holdShortest(t, a)
		}
		for _, numbers := range [][]api.Int{nums(0), nums(1), nums(5, -3, 0), check.Integers(), check.Zeros()} {
			v := check.Filled(1, a.Cols, numbers).At
			if rank == a.Rows {
				holdNear(t, a, v)
				continue
			}
			got, e := lll.Near(a, v)
			holdRefusal(t, at("Near", a, v), got, e, api.ErrForm)
		}
	}
}

// R1: a list without numbers may be nil or not, and a matrix without entries too.
func TestNothing(t *testing.T) {
	for _, v := range [][]api.Int{nil, {}} {
		for _, a := range []api.Mat{{}, {At: v}} {
			check.Ints(t, "Dets", holdDets(t, a), nums(1))
			holdIsReduced(t, a, true)
			holdReduce(t, a)
			holdNear(t, a, v)
			holdNoShortest(t, a, api.ErrNone)
		}
	}
}
