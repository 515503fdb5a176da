package lattice_test

import (
	"testing"

	"trellis/api"
	"trellis/check"
	"trellis/lattice"
)

// The examples of the chapter.

func TestExamplesOfOne(t *testing.T) {
	for _, c := range []struct {
		name    string
		call    answering
		a, want string
	}{
		{"Kernel", lattice.Kernel, "2 4; 1 2; 3 6", "1 1 -1; 0 3 -1"},
		{"Kernel", lattice.Kernel, "1 0; 0 1", "0x2"},
		{"Kernel", lattice.Kernel, "2x0", "1 0; 0 1"},
		{"Image", lattice.Image, "4 6; 6 9", "2 3"},
		{"Complement", lattice.Complement, "1 1 1", "1 0 -1; 0 1 -1"},
		{"Complement", lattice.Complement, "0x2", "1 0; 0 1"},
		{"Saturate", lattice.Saturate, "2 4; 3 6", "1 2"},
		{"Saturate", lattice.Saturate, "2 0; 0 3", "1 0; 0 1"},
	} {
		got, e := c.call(mx(c.a))
		check.Same(t, c.name+"("+c.a+")", e, api.OK)
		check.Mat(t, c.name+"("+c.a+")", got, mx(c.want))
		holdOne(t, mx(c.a))
	}
}

func TestExamplesOfSolve(t *testing.T) {
	check.Ints(t, "Solve(2 4; 1 2; 3 6, {5, 10})", holdSolved(t, mx("2 4; 1 2; 3 6"), nums(5, 10)), nums(0, 2, 1))
	check.Ints(t, "Solve(2 0; 0 3, {4, 3})", holdSolved(t, mx("2 0; 0 3"), nums(4, 3)), nums(2, 1))
	check.Ints(t, "Solve(0x2, {0, 0})", holdSolved(t, mx("0x2"), nums(0, 0)), nil)
	holdSolved(t, mx("2 0; 0 3"), nums(4, -3))
	holdRefuted(t, mx("2 0; 0 3"), nums(1, 0))
	holdRefuted(t, mx("0x2"), nums(0, 1))
	holdRefuted(t, mx("0x1"), nums(5))
	x, e := lattice.Solve(mx("2 0; 0 3"), nums(1))
	holdRefusal(t, "Solve(2 0; 0 3, {1})", x, e, api.ErrFit)
}

func TestExamplesOfTwo(t *testing.T) {
	holdSum(t, mx("2 0"), mx("3 0"), mx("1 0"))
	holdMeet(t, mx("2 0"), mx("3 0"), mx("6 0"))
	holdMeet(t, mx("1 1"), mx("1 -1"), mx("0x2"))
	holdInside(t, mx("4 0"), mx("2 0; 0 3"), true)
	holdInside(t, mx("0x2"), mx("0x2"), true)
	holdSame(t, mx("4 6; 6 9"), mx("2 3"), true)
	holdIndex(t, mx("2 0; 0 3"), mx("1 0; 0 1"), num(6))
	holdIndex(t, mx("2 0"), mx("1 0; 0 1"), num(0))
	holdIndex(t, mx("0x2"), mx("0 0"), num(1))
	holdOutside(t, mx("1 0"), mx("2 0"))
}
