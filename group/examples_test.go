package group_test

import (
	"testing"

	"trellis/api"
	"trellis/check"
	"trellis/group"
)

// The examples of the chapter.

func TestExamplesOfOf(t *testing.T) {
	for _, c := range []struct {
		a       string
		rank    int
		factors string
	}{
		{"2 4; 6 8", 0, "2 4"}, {"0 0", 2, ""}, {"0x2", 2, ""}, {"3x0", 0, ""}, {"1", 0, ""}, {"4 0 0; 0 6 0", 1, "2 12"},
	} {
		holdGroup(t, mx(c.a), c.rank, row(c.factors))
	}
	holdSize(t, mx("2 4; 6 8"), num(8))
	holdSize(t, mx("0 0"), num(0))
	holdSize(t, mx("3x0"), num(1))
}

func TestExamplesOfRows(t *testing.T) {
	check.Ints(t, "Rep(3 1; 0 2, {4, 0})", holdRep(t, mx("3 1; 0 2"), nums(4, 0)), nums(1, 1))
	check.Ints(t, "Rep(2 0, {5, -7})", holdRep(t, mx("2 0"), nums(5, -7)), nums(1, -7))
	got, e := group.Rep(mx("3 1; 0 2"), nums(4))
	holdRefusal(t, "Rep(3 1; 0 2, {4})", got, e, api.ErrFit)
	holdOrder(t, mx("2 0; 0 3"), nums(1, 1), num(6))
	holdOrder(t, mx("2 0"), nums(0, 1), num(0))
	holdOrder(t, mx("2 0"), nums(2, 0), num(1))
	holdOrder(t, mx("3x0"), nil, num(1))
}

func TestExamplesOfCoords(t *testing.T) {
	holdCoords(t, mx("2 0; 0 3"), nums(6))
	c, _ := holdCoords(t, mx("1"), nil)
	check.Mat(t, "c of Coords(1)", c, mx("1x0"))
}

func TestExamplesOfSame(t *testing.T) {
	holdSame(t, mx("2 0; 0 3"), mx("6"), true)
	holdSame(t, mx("2 0; 0 2"), mx("4"), false)
	holdSame(t, mx("0x2"), mx("0 0 1; 0 0 0"), true)
}

func TestExamplesOfEach(t *testing.T) {
	holdGiven(t, "2 1; 0 2", "0 0; 0 1; 1 0; 1 1")
	holdGiven(t, "3x0", "1x0")
	for _, a := range []string{"2 0", "5000"} {
		rows, e := group.Each(mx(a))
		holdNone(t, "Each("+a+")", rows, e, api.ErrLarge)
	}
}

func TestExamplesOfPrimary(t *testing.T) {
	holdPrimary(t, nums(12, 8, 1), powersOf("2^2 2^3 3"))
	holdPrimary(t, nil, nil)
	holdPrimary(t, nums(2147483647), powersOf("2147483647"))
	holdNoPrimary(t, nums(0), api.ErrArg)
	holdNoPrimary(t, nums(2147483648), api.ErrLarge)
}

func TestExamplesOfProducts(t *testing.T) {
	holdTensor(t, 1, nums(4), 1, nums(6), 1, nums(2, 2, 12))
	holdTor(t, 1, nums(4), 1, nums(6), nums(2))
	holdTensor(t, 0, nums(3), 0, nums(4), 0, nil)
	holdTensor(t, 2, nil, 3, nil, 6, nil)
	holdNoProducts(t, 65, nil, 0, nil)
}
