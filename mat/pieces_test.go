package mat_test

import (
	"fmt"
	"math"
	"slices"
	"testing"

	"trellis/api"
	"trellis/mat"
)

// upTo are the places from 0 on, n of them.
func upTo(n int) []int {
	var places []int
	for i := range n {
		places = append(places, i)
	}
	return places
}

// P9.4.
func TestPick(t *testing.T) {
	for _, c := range []struct {
		a          api.Mat
		rows, cols []int
		want       api.Mat
	}{
		{mx("1 2; 3 4"), []int{1, 1, 0}, []int{1}, mx("4; 4; 2")},
		{mx("1 2 3; 4 5 6"), []int{0, 1}, []int{0, 1, 2}, mx("1 2 3; 4 5 6")},
		{mx("1 2 3; 4 5 6"), []int{1, 0}, []int{2, 0}, mx("6 4; 3 1")},
		{mx("1 2 3; 4 5 6"), []int{1}, []int{2, 2, 2, 1}, mx("6 6 6 5")},
		{mx("1 2 3; 4 5 6"), []int{0, 1, 0, 1}, []int{0}, mx("1; 4; 1; 4")},
		{mx("1 2; 3 4"), nil, []int{1}, mx("0x1")},
		{mx("1 2; 3 4"), []int{0, 1, 1}, nil, mx("3x0")},
		{mx("1 2; 3 4"), []int{}, []int{}, mx("0x0")},
		{mx("1 2; 3 4"), nil, nil, mx("0x0")},
		{mx("0x3"), nil, []int{2, 1, 0, 2}, mx("0x4")},
		{mx("3x0"), []int{2, 2}, nil, mx("2x0")},
		{mx("0x0"), nil, nil, mx("0x0")},
		{of(1, 3, minus(0), plus(5, 0), minus(0, 1, 0)), []int{0, 0}, []int{2, 1, 0}, of(2, 3, minus(0, 1), num(5), num(0), minus(0, 1), num(5), num(0))},
		{mx("7"), make([]int, 64), make([]int, 64), full(64, 64, num(7))},
		{full(64, 64, num(2)), []int{63}, []int{63}, mx("2")},
	} {
		got, e := mat.Pick(c.a, c.rows, c.cols)
		hold(t, fmt.Sprintf("Pick(%v, %v, %v)", c.a, c.rows, c.cols), got, e, c.want)
	}
}

// P9.4: places outside are looked for in both lists, however long, ahead of their lengths.
func TestPickFaults(t *testing.T) {
	long, late := make([]int, 65), append(make([]int, 100), 2)
	for _, c := range []struct {
		a          api.Mat
		rows, cols []int
		want       api.Errno
	}{
		{mx("1 2; 3 4"), nil, []int{2}, api.ErrArg},
		{mx("1 2; 3 4"), []int{2}, nil, api.ErrArg},
		{mx("1 2; 3 4"), []int{-1}, []int{0}, api.ErrArg},
		{mx("1 2; 3 4"), []int{0}, []int{-1}, api.ErrArg},
		{mx("1 2; 3 4"), []int{0, 1, math.MaxInt}, []int{0}, api.ErrArg},
		{mx("1 2; 3 4"), []int{0}, []int{math.MinInt, 1}, api.ErrArg},
		{mx("1 2 3; 4 5 6"), []int{2}, []int{2}, api.ErrArg},
		{mx("1 2 3; 4 5 6"), []int{1}, []int{3}, api.ErrArg},
		{mx("1 2; 3 4; 5 6"), []int{2}, []int{2}, api.ErrArg},
		{mx("0x3"), []int{0}, nil, api.ErrArg},
		{mx("3x0"), nil, []int{0}, api.ErrArg},
		{mx("0x0"), []int{0}, nil, api.ErrArg},
		{mx("1"), long, []int{1}, api.ErrArg},
		{mx("1"), []int{1}, long, api.ErrArg},
		{mx("1 2; 3 4"), late, nil, api.ErrArg},
		{mx("1 2; 3 4"), nil, late, api.ErrArg},
		{mx("1 2; 3 4"), long, late, api.ErrArg},
		{mx("1"), long, []int{0}, api.ErrLarge},
		{mx("1"), []int{0}, long, api.ErrLarge},
		{mx("1"), long, nil, api.ErrLarge},
		{mx("1"), nil, long, api.ErrLarge},
		{mx("1"), long, long, api.ErrLarge},
		{mx("1x0"), long, nil, api.ErrLarge},
		{mx("0x1"), nil, long, api.ErrLarge},
	} {
		got, e := mat.Pick(c.a, c.rows, c.cols)
		holdRefusal(t, fmt.Sprintf("Pick(%v, %v, %v)", c.a, c.rows, c.cols), got, e, c.want)
	}
}

// P9.4.
func TestStackAndBeside(t *testing.T) {
	for _, c := range []struct {
		list          []api.Mat
		stack, beside api.Mat
	}{
		{nil, mx("0x0"), mx("0x0")},
		{[]api.Mat{}, mx("0x0"), mx("0x0")},
		{[]api.Mat{mx("1 2; 3 4")}, mx("1 2; 3 4"), mx("1 2; 3 4")},
		{[]api.Mat{mx("1 2 3; 4 5 6")}, mx("1 2 3; 4 5 6"), mx("1 2 3; 4 5 6")},
		{[]api.Mat{mx("1 2; 3 4"), mx("5 6; 7 8")}, mx("1 2; 3 4; 5 6; 7 8"), mx("1 2 5 6; 3 4 7 8")},
		{[]api.Mat{mx("1 2"), mx("3 4"), mx("5 6")}, mx("1 2; 3 4; 5 6"), mx("1 2 3 4 5 6")},
		{[]api.Mat{mx("1; 2"), mx("3; 4"), mx("5; 6")}, mx("1; 2; 3; 4; 5; 6"), mx("1 3 5; 2 4 6")},
		{[]api.Mat{mx("0x0"), mx("0x0")}, mx("0x0"), mx("0x0")},
		{[]api.Mat{mx("0x3")}, mx("0x3"), mx("0x3")},
		{[]api.Mat{mx("0x3"), mx("0x3")}, mx("0x3"), mx("0x6")},
		{[]api.Mat{mx("3x0"), mx("3x0")}, mx("6x0"), mx("3x0")},
		{[]api.Mat{mx("32x0"), mx("32x0")}, mx("64x0"), mx("32x0")},
		{[]api.Mat{of(1, 2, minus(0), plus(3, 0)), of(1, 2, minus(0, 1, 0), num(4))}, of(2, 2, num(0), num(3), minus(0, 1), num(4)), of(1, 4, num(0), num(3), minus(0, 1), num(4))},
		{[]api.Mat{full(32, 32, num(1)), full(32, 32, num(1))}, full(64, 32, num(1)), full(32, 64, num(1))},
		{slices.Repeat([]api.Mat{mx("9")}, 64), full(64, 1, num(9)), full(1, 64, num(9))},
		{slices.Repeat([]api.Mat{mx("0x0")}, 1000), mx("0x0"), mx("0x0")},
	} {
		got, e := mat.Stack(c.list...)
		hold(t, fmt.Sprintf("Stack(%v)", c.list), got, e, c.stack)
		got, e = mat.Beside(c.list...)
		hold(t, fmt.Sprintf("Beside(%v)", c.list), got, e, c.beside)
	}
}

// P9.4: matrices of unlike shapes that go together in one way.
func TestUnlikeTogether(t *testing.T) {
	for _, c := range []struct {
		list []api.Mat
		want api.Mat
	}{
		{[]api.Mat{mx("0x2"), mx("1 2"), mx("3 4")}, mx("1 2; 3 4")},
		{[]api.Mat{mx("1 2"), mx("0x2"), mx("3 4; 5 6"), mx("0x2")}, mx("1 2; 3 4; 5 6")},
		{[]api.Mat{mx("2x0"), mx("3x0"), mx("0x0")}, mx("5x0")},
		{[]api.Mat{full(60, 64, num(1)), full(4, 64, num(1)), mx("0x64")}, full(64, 64, num(1))},
		{[]api.Mat{mx("1 2 3"), mx("4 5 6; 7 8 9")}, mx("1 2 3; 4 5 6; 7 8 9")},
	} {
		got, e := mat.Stack(c.list...)
		hold(t, fmt.Sprintf("Stack(%v)", c.list), got, e, c.want)
		_, e = mat.Beside(c.list...)
		if e != api.ErrFit {
			t.Errorf("Beside(%v): %v", c.list, e)
		}
	}
	for _, c := range []struct {
		list []api.Mat
		want api.Mat
	}{
		{[]api.Mat{mx("1; 2"), mx("3 4; 5 6")}, mx("1 3 4; 2 5 6")},
		{[]api.Mat{mx("2x0"), mx("3 4; 5 6"), mx("2x0"), mx("7; 8")}, mx("3 4 7; 5 6 8")},
		{[]api.Mat{mx("0x2"), mx("0x3"), mx("0x0")}, mx("0x5")},
		{[]api.Mat{full(64, 60, num(1)), full(64, 4, num(1)), mx("64x0")}, full(64, 64, num(1))},
	} {
		got, e := mat.Beside(c.list...)
		hold(t, fmt.Sprintf("Beside(%v)", c.list), got, e, c.want)
		_, e = mat.Stack(c.list...)
		if e != api.ErrFit {
			t.Errorf("Stack(%v): %v", c.list, e)
		}
	}
}

// P9.4: lines that do not go together are refused ahead of lines that are too many.
func TestStackAndBesideFaults(t *testing.T) {
	for _, c := range []struct {
		list          []api.Mat
		stack, beside api.Errno
	}{
		{[]api.Mat{mx("0x0"), mx("1 2")}, api.ErrFit, api.ErrFit},
		{[]api.Mat{mx("1 2"), mx("1 2"), mx("1; 2")}, api.ErrFit, api.ErrFit},
		{[]api.Mat{full(64, 64, num(1)), full(64, 64, num(1)), mx("1")}, api.ErrFit, api.ErrFit},
		{[]api.Mat{mx("64x0"), mx("1x0"), mx("0x1")}, api.ErrFit, api.ErrFit},
		{[]api.Mat{mx("0x64"), mx("0x1"), mx("1x0")}, api.ErrFit, api.ErrFit},
		{[]api.Mat{mx("64x0"), mx("1x0")}, api.ErrLarge, api.ErrFit},
		{[]api.Mat{mx("0x64"), mx("0x1")}, api.ErrFit, api.ErrLarge},
		{[]api.Mat{full(33, 33, num(1)), full(33, 33, num(1))}, api.ErrLarge, api.ErrLarge},
		{[]api.Mat{full(64, 64, num(1)), full(64, 64, num(1))}, api.ErrLarge, api.ErrLarge},
		{slices.Repeat([]api.Mat{mx("9")}, 65), api.ErrLarge, api.ErrLarge},
		{slices.Repeat([]api.Mat{full(64, 64, num(0))}, 300), api.ErrLarge, api.ErrLarge},
	} {
		got, e := mat.Stack(c.list...)
		holdRefusal(t, fmt.Sprintf("Stack(%v)", c.list), got, e, c.stack)
		got, e = mat.Beside(c.list...)
		holdRefusal(t, fmt.Sprintf("Beside(%v)", c.list), got, e, c.beside)
	}
}

// P9.4.
func TestKron(t *testing.T) {
	for _, c := range []struct{ a, b, want api.Mat }{
		{mx("1 2; 0 3"), mx("0 1"), mx("0 1 0 2; 0 0 0 3")},
		{mx("0 1"), mx("1 2; 0 3"), mx("0 0 1 2; 0 0 0 3")},
		{mx("1 2"), mx("3; 4"), mx("3 6; 4 8")},
		{mx("3; 4"), mx("1 2"), mx("3 6; 4 8")},
		{mx("1 -2; 3 4"), mx("5 6; 7 8"), mx("5 6 -10 -12; 7 8 -14 -16; 15 18 20 24; 21 24 28 32")},
		{mx("1 0; 0 1"), mx("1 2 3; 4 5 6"), mx("1 2 3 0 0 0; 4 5 6 0 0 0; 0 0 0 1 2 3; 0 0 0 4 5 6")},
		{mx("-1"), mx("1 2; 3 4"), mx("-1 -2; -3 -4")},
		{mx("0x0"), mx("1 2; 3 4"), mx("0x0")},
		{mx("1 2; 3 4"), mx("0x0"), mx("0x0")},
		{mx("0x3"), mx("1 2; 3 4"), mx("0x6")},
		{mx("1 2; 3 4"), mx("3x0"), mx("6x0")},
		{mx("3x0"), mx("0x2"), mx("0x0")},
		{mx("0x64"), mx("64x0"), mx("0x0")},
		{mx("32x0"), mx("2x0"), mx("64x0")},
		{mx("1x0"), full(64, 64, num(1)), mx("64x0")},
		{of(1, 2, minus(2, 0), minus(0)), of(1, 2, plus(3, 0), plus(0, 1, 0)), of(1, 4, num(-6), minus(0, 2), num(0), num(0))},
		{of(1, 1, plus(top)), of(1, 1, plus(top)), of(1, 1, plus(1, top-1))},
		{full(8, 8, num(3)), full(8, 8, num(-5)), full(64, 64, num(-15))},
		{full(64, 1, num(2)), full(1, 64, num(3)), full(64, 64, num(6))},
		{mx("7"), full(64, 64, num(1)), full(64, 64, num(7))},
	} {
		got, e := mat.Kron(c.a, c.b)
		hold(t, fmt.Sprintf("Kron(%v, %v)", c.a, c.b), got, e, c.want)
	}
	for _, c := range []struct{ a, b api.Mat }{
		{mx("33x0"), mx("2x0")}, {mx("0x33"), mx("0x2")}, {mx("0x13"), mx("0x5")}, {mx("13x0"), mx("5x0")}, {full(8, 9, num(1)), full(8, 8, num(1))}, {full(9, 8, num(1)), full(8, 8, num(1))},
		{full(64, 64, num(1)), full(64, 64, num(1))}, {full(64, 1, num(1)), full(2, 1, num(0))}, {full(1, 2, num(1)), full(1, 64, num(0))}, {mx("0x33"), full(1, 2, num(5))},
	} {
		for range 2 {
			got, e := mat.Kron(c.a, c.b)
			holdRefusal(t, fmt.Sprintf("Kron(%v, %v)", c.a, c.b), got, e, api.ErrLarge)
			c.a, c.b = c.b, c.a
		}
	}
}
