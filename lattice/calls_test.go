package lattice_test

import (
	"fmt"
	"maps"
	"testing"

	"trellis/api"
	"trellis/check"
	"trellis/lattice"
	"trellis/made"
)

// The calls by their kinds, what they answer told as one list of integers; nothing is told of zero values.
type (
	taker     func(a api.Mat) ([]api.Int, api.Errno)
	rowTaker  func(a api.Mat, b []api.Int) ([]api.Int, api.Errno)
	twoTaker  func(a, b api.Mat) ([]api.Int, api.Errno)
	answering = func(a api.Mat) (api.Mat, api.Errno)
)

// onOne are the calls on one matrix.
func onOne() map[string]taker {
	all := map[string]taker{}
	for name, call := range map[string]answering{"Kernel": lattice.Kernel, "Image": lattice.Image, "Complement": lattice.Complement, "Saturate": lattice.Saturate} {
		all[name] = func(a api.Mat) ([]api.Int, api.Errno) {
			got, e := call(a)
			return told(got), e
		}
	}
	return all
}

// onRow are the calls on a matrix and a row.
func onRow() map[string]rowTaker {
	return map[string]rowTaker{
		"Solve": lattice.Solve,
		"Refute": func(a api.Mat, b []api.Int) ([]api.Int, api.Errno) {
			y, e := lattice.Refute(a, b)
			return toldFracs(y), e
		},
		"Has": func(a api.Mat, b []api.Int) ([]api.Int, api.Errno) {
			has, e := lattice.Has(a, b)
			return toldFlag(has), e
		},
	}
}

// onTwo are the calls on two matrices.
func onTwo() map[string]twoTaker {
	return map[string]twoTaker{
		"Inside": func(a, b api.Mat) ([]api.Int, api.Errno) {
			is, e := lattice.Inside(a, b)
			return toldFlag(is), e
		},
		"Same": func(a, b api.Mat) ([]api.Int, api.Errno) {
			is, e := lattice.Same(a, b)
			return toldFlag(is), e
		},
		"Sum": func(a, b api.Mat) ([]api.Int, api.Errno) {
			sum, e := lattice.Sum(a, b)
			return told(sum), e
		},
		"Meet": func(a, b api.Mat) ([]api.Int, api.Errno) {
			meet, e := lattice.Meet(a, b)
			return told(meet), e
		},
		"Index": func(a, b api.Mat) ([]api.Int, api.Errno) {
			index, e := lattice.Index(a, b)
			return told(api.Mat{At: []api.Int{index}}), e
		},
	}
}

// takers are all calls, with rows and other matrices that fit where a has a number of columns that may be, and with such as do not.
func takers() map[string]taker {
	all := maps.Clone(onOne())
	for name, call := range onRow() {
		for _, more := range []int{0, 1, 200} {
			all[fmt.Sprint(name, " with numbers more: ", more)] = func(a api.Mat) ([]api.Int, api.Errno) {
				return call(a, check.Filled(1, min(max(a.Cols, 0), 65)+more, nums(5, -3, 0)).At)
			}
		}
		all[name+" of nil"] = func(a api.Mat) ([]api.Int, api.Errno) { return call(a, nil) }
	}
	for name, call := range onTwo() {
		all[name+" of one twice"] = func(a api.Mat) ([]api.Int, api.Errno) { return call(a, a) }
		all[name+" with rows that fit"] = func(a api.Mat) ([]api.Int, api.Errno) {
			return call(a, check.Filled(2, min(max(a.Cols, 0), 64), nums(5, -3, 0)))
		}
		for _, text := range []string{"0x0", "0x2", "2x0", "1", "1 2; 3 4", "0 0 0; 0 0 0"} {
			all[name+" with "+text] = func(a api.Mat) ([]api.Int, api.Errno) { return call(a, mx(text)) }
			all[name+", behind "+text] = func(a api.Mat) ([]api.Int, api.Errno) { return call(mx(text), a) }
		}
	}
	return all
}

// P21.1 to P21.6: a matrix that is not sound is told first, whatever else is wrong, with nothing beside the error.
func TestUnsound(t *testing.T) {
	for _, a := range check.Unsound() {
		for name, call := range takers() {
			got, e := call(a)
			holdRefusal(t, of(name, a), got, e, api.ErrMat)
		}
		for name, call := range onTwo() {
			for _, b := range check.Unsound() {
				got, e := call(a, b)
				holdRefusal(t, of(name, a, b), got, e, api.ErrMat)
			}
		}
	}
}

// P21.2 and P21.3: rows of every other length are refused, such as lie in the lattice as far as they go and such as do not.
func TestRowsThatDoNotFit(t *testing.T) {
	for _, a := range made.Samples() {
		for count := range 67 {
			for name, call := range onRow() {
				if count == a.Cols {
					continue
				}
				for _, numbers := range [][]api.Int{nums(0), nums(1), nums(5, -3, 0)} {
					b := check.Filled(1, count, numbers).At
					got, e := call(a, b)
					holdRefusal(t, at(name, a, b), got, e, api.ErrFit)
				}
			}
		}
	}
	for name, call := range onRow() {
		got, e := call(mx("1 2"), nil)
		holdRefusal(t, name+"(1 2, nil)", got, e, api.ErrFit)
	}
}

// P21.4 and P21.5: matrices that have not as many columns are refused, whatever their lattices are, also where Index would have no answer.
func TestMatricesThatDoNotFit(t *testing.T) {
	samples := append(made.Samples(), mx("0x1"), mx("0x64"), mx("64x0"), mx("0x3"), mx("0 0 0"))
	for _, a := range samples {
		for _, b := range samples {
			for name, call := range onTwo() {
				if a.Cols != b.Cols {
					got, e := call(a, b)
					holdRefusal(t, of(name, a, b), got, e, api.ErrFit)
				}
			}
		}
	}
}

// R1: all calls answer at every sound matrix, and at every two of them that fit.
func TestSound(t *testing.T) {
	samples := append(made.Samples(), mx("0x1"), mx("0x3"), mx("3x0"), mx("0 0 0"), mx("0; 0"))
	for _, a := range samples {
		holdOne(t, a)
		for _, b := range samples {
			if a.Cols != b.Cols {
				continue
			}
			holdTwo(t, a, b)
			for i := range b.Rows {
				line := b.At[i*b.Cols : (i+1)*b.Cols]
				basis, _ := lattice.Image(a)
				holdRow(t, a, line, lies(basis, line))
			}
		}
	}
}
