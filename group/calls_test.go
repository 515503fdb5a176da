package group_test

import (
	"fmt"
	"testing"

	"trellis/api"
	"trellis/check"
	"trellis/group"
	"trellis/made"
)

// taker is a call on a matrix, what it answers told as one list of integers; nothing is told of zero values.
type taker func(a api.Mat) ([]api.Int, api.Errno)

// rowTaker is a call on a matrix and a row.
type rowTaker func(a api.Mat, v []api.Int) ([]api.Int, api.Errno)

// toldNumber is a number as a list, and nothing for what is a zero value.
func toldNumber(n api.Int) []api.Int {
	if !n.Neg && len(n.Mag) == 0 {
		return nil
	}
	return []api.Int{n}
}

// onOne are the calls on one matrix.
func onOne() map[string]taker {
	return map[string]taker{
		"Of": func(a api.Mat) ([]api.Int, api.Errno) {
			rank, factors, e := group.Of(a)
			return append(toldNumber(num(rank)), factors...), e
		},
		"Size": func(a api.Mat) ([]api.Int, api.Errno) {
			size, e := group.Size(a)
			return toldNumber(size), e
		},
		"Coords": func(a api.Mat) ([]api.Int, api.Errno) {
			c, m, e := group.Coords(a)
			list := append(toldNumber(num(c.Rows)), toldNumber(num(c.Cols))...)
			return append(append(list, c.At...), m...), e
		},
		"Each": func(a api.Mat) ([]api.Int, api.Errno) {
			rows, e := group.Each(a)
			var list []api.Int
			for v := range rows {
				list = append(append(list, num(len(v))), v...)
			}
			return list, e
		},
	}
}

// onRow are the calls on a matrix and a row.
func onRow() map[string]rowTaker {
	return map[string]rowTaker{
		"Rep": group.Rep,
		"Order": func(a api.Mat, v []api.Int) ([]api.Int, api.Errno) {
			order, e := group.Order(a, v)
			return toldNumber(order), e
		},
	}
}

// sameOf is Same, told as a list.
func sameOf(a, b api.Mat) ([]api.Int, api.Errno) {
	is, e := group.Same(a, b)
	if is {
		return nums(1), e
	}
	return nil, e
}

// takers are all calls that take a matrix, with rows that fit where a has a number of columns that may be, with such as do not, and with other matrices.
func takers() map[string]taker {
	all := onOne()
	for name, call := range onRow() {
		for _, more := range []int{0, 1, 200} {
			all[fmt.Sprint(name, " with numbers more: ", more)] = func(a api.Mat) ([]api.Int, api.Errno) {
				return call(a, check.Filled(1, min(max(a.Cols, 0), 65)+more, nums(5, -3, 0)).At)
			}
		}
		all[name+" of nil"] = func(a api.Mat) ([]api.Int, api.Errno) { return call(a, nil) }
	}
	all["Same as itself"] = func(a api.Mat) ([]api.Int, api.Errno) { return sameOf(a, a) }
	for _, text := range []string{"0x0", "0x2", "2x0", "1", "1 2; 3 4", "0 0 0; 0 0 0"} {
		all["Same as "+text] = func(a api.Mat) ([]api.Int, api.Errno) { return sameOf(a, mx(text)) }
		all["Same, behind "+text] = func(a api.Mat) ([]api.Int, api.Errno) { return sameOf(mx(text), a) }
	}
	return all
}

// P22.1 to P22.7: a matrix that is not sound is told first, whatever else is wrong, with nothing beside the error; of Same also if the other one is not sound either.
func TestUnsound(t *testing.T) {
	for _, a := range check.Unsound() {
		for name, call := range takers() {
			got, e := call(a)
			holdRefusal(t, of(name, a), got, e, api.ErrMat)
		}
		for _, b := range check.Unsound() {
			got, e := sameOf(a, b)
			holdRefusal(t, of("Same", a, b), got, e, api.ErrMat)
		}
		rows, e := group.Each(a)
		holdNone(t, of("Each", a), rows, e, api.ErrMat)
	}
}

// P22.3 and P22.4: rows of every other length are refused, such as lie in the lattice as far as they go and such as do not.
func TestRowsThatDoNotFit(t *testing.T) {
	for _, a := range append(made.Samples(), mx("3x0"), mx("0x64")) {
		for count := range 67 {
			for name, call := range onRow() {
				if count == a.Cols {
					continue
				}
				for _, numbers := range [][]api.Int{nums(0), nums(1), nums(5, -3, 0)} {
					v := check.Filled(1, count, numbers).At
					got, e := call(a, v)
					holdRefusal(t, at(name, a, v), got, e, api.ErrFit)
				}
			}
		}
	}
	for name, call := range onRow() {
		got, e := call(mx("1 2"), nil)
		holdRefusal(t, name+"(1 2, nil)", got, e, api.ErrFit)
	}
}

// P22.7 and R3: where there are too many classes nothing stands beside the error.
func TestTooManyClasses(t *testing.T) {
	for _, text := range []string{"4097", "0", "2 0", "0x1", "100 0; 0 41"} {
		got, e := onOne()["Each"](mx(text))
		holdRefusal(t, "Each("+text+")", got, e, api.ErrLarge)
	}
}

// R1: all calls answer at every sound matrix, and at rows that fit.
func TestSound(t *testing.T) {
	for _, a := range append(made.Samples(), mx("0x1"), mx("0x64"), mx("3x0"), mx("64x0"), mx("0 0 0"), mx("0; 0"), api.Mat{At: []api.Int{}}) {
		rank, factors := groupOf(a)
		c, m := holdGroup(t, a, rank, factors)
		for _, numbers := range [][]api.Int{nums(0), nums(1), nums(5, -3, 0), check.Integers(), check.Zeros()} {
			v := check.Filled(1, a.Cols, numbers).At
			holdRep(t, a, v)
			holdOrder(t, a, v, orderOf(m, told(c, m, v)))
		}
	}
}

// R1: a list without numbers may be nil or not, and a matrix without entries too.
func TestNothing(t *testing.T) {
	for _, v := range [][]api.Int{nil, {}} {
		for _, a := range []api.Mat{{}, {At: v}, {Rows: 3, At: v}} {
			holdGroup(t, a, 0, nil)
			holdRep(t, a, v)
			holdOrder(t, a, v, num(1))
		}
		holdPrimary(t, v, nil)
		holdTensor(t, 1, v, 2, v, 2, nil)
		holdTor(t, 1, v, 2, v, nil)
	}
}
