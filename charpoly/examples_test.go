package charpoly_test

import (
	"testing"

	"trellis/api"
	"trellis/charpoly"
	"trellis/check"
)

// The chapter's examples, in its order.
func TestExamplesOfChar(t *testing.T) {
	holdChar(t, mx("1 2; 3 4"), poly("-2 -5 1"))
	holdChar(t, mx("0x0"), poly("1"))
	holdChar(t, mx("7"), poly("-7 1"))
	got, e := charpoly.Char(mx("1 2"))
	holdRefusal(t, "Char of 1 2", got, e, api.ErrFit)
}

func TestExamplesOfLeastPoly(t *testing.T) {
	holdLeast(t, mx("2 0; 0 2"), poly("-2 1"))
	holdLeast(t, mx("2 1; 0 2"), poly("4 -4 1"))
	holdLeast(t, mx("0"), poly("0 1"))
	holdLeast(t, mx("0 1 0; 0 0 0; 0 0 0"), poly("0 0 1"))
}

func TestExamplesOfDivMonic(t *testing.T) {
	holdDivision(t, poly("1 0 0 1"), poly("1 1"), poly("1 -1 1"), nil)
	holdDivision(t, poly("5"), poly("0 1"), nil, poly("5"))
	holdDivision(t, poly("5 6 0"), poly("1 0"), poly("5 6"), nil)
	holdNoDivision(t, poly("1"), poly("2"))
	holdNoDivision(t, poly("1"), poly("0"))
	holdDivision(t, poly("1 2"), poly("1 0 1 0"), nil, poly("1 2"))
}

func TestExamplesOfAt(t *testing.T) {
	holdAt(t, poly("-2 -5 1"), mx("1 2; 3 4"), mx("0 0; 0 0"))
	holdAt(t, nil, mx("1 2; 3 4"), mx("0 0; 0 0"))
	holdAt(t, poly("3"), mx("1 2; 3 4"), mx("3 0; 0 3"))
	holdAt(t, poly("1"), mx("0x0"), mx("0x0"))
}

func TestExamplesOfCompanion(t *testing.T) {
	holdCompanion(t, poly("-2 -5 1"), mx("0 1; 2 5"))
	holdCompanion(t, poly("-3 1"), mx("3"))
	holdCompanion(t, poly("1 0"), mx("0x0"))
	holdNoCompanion(t, nil, api.ErrForm)
	holdNoCompanion(t, poly("1 2"), api.ErrForm)
	holdNoCompanion(t, append(make([]api.Int, 65), num(2)), api.ErrLarge)
}

func TestExamplesOfTraces(t *testing.T) {
	holdTraces(t, mx("1 2; 3 4"), 2, nums(5, 29))
	holdTraces(t, mx("1 2; 3 4"), 0, nil)
	holdTraces(t, mx("0x0"), 2, nums(0, 0))
}

func TestExamplesOfPolynomials(t *testing.T) {
	check.Int(t, "Value({1, 2, 3}, 10)", charpoly.Value(poly("1 2 3"), num(10)), num(321))
	check.Int(t, "Value({}, 7)", charpoly.Value(nil, num(7)), num(0))
	check.Int(t, "Value({4}, 0)", charpoly.Value(poly("4"), num(0)), num(4))
	check.Ints(t, "Mul({1, 1}, {1, -1})", charpoly.Mul(poly("1 1"), poly("1 -1")), poly("1 0 -1"))
	check.Ints(t, "Add({1, 2}, {0, -2})", charpoly.Add(poly("1 2"), poly("0 -2")), poly("1"))
	check.Ints(t, "Trim({0, 0})", charpoly.Trim(poly("0 0")), nil)
}
