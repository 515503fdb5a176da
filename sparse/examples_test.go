package sparse_test

import (
	"testing"

	"trellis/api"
	"trellis/check"
	"trellis/sparse"
)

// The chapter's examples, in its order. Example 6 is held by TestAllEmpties.
func TestExampleOne(t *testing.T) {
	hold(t, "New(3, 1048576)", fresh(t, 3, 1048576), plain{rows: 3, cols: 1048576})
	g, e := sparse.New(-1, 2)
	holdNone(t, "New(-1, 2)", g, e, api.ErrArg)
	g, e = sparse.New(2, 1048577)
	holdNone(t, "New(2, 1048577)", g, e, api.ErrArg)
	hold(t, "New(0, 0)", fresh(t, 0, 0), plain{})
}

func TestExampleTwo(t *testing.T) {
	g := fresh(t, 2, 3)
	check.Same(t, "Set(1, 2, 5)", g.Set(1, 2, num(5)), api.OK)
	check.Same(t, "Len", g.Len(), 1)
	v, e := g.Get(1, 2)
	check.Same(t, "Get(1, 2)", e, api.OK)
	check.Int(t, "Get(1, 2)", v, num(5))
	v, e = g.Get(0, 0)
	check.Same(t, "Get(0, 0)", e, api.OK)
	check.Int(t, "Get(0, 0)", v, num(0))
	check.Same(t, "Set(2, 0, 1)", g.Set(2, 0, num(1)), api.ErrArg)
	v, e = g.Get(0, -1)
	check.Same(t, "Get(0, -1)", e, api.ErrArg)
	check.Int(t, "Get(0, -1)", v, num(0))
	check.Same(t, "Set(1, 2, 0)", g.Set(1, 2, num(0)), api.OK)
	check.Same(t, "Len", g.Len(), 0)
}

func TestExampleThree(t *testing.T) {
	g := grid(t, "1 0 2; 0 3 0")
	check.Same(t, "AddRow(1, 0, -2)", g.AddRow(1, 0, num(-2)), api.OK)
	hold(t, "AddRow(1, 0, -2)", g, plainOf(mx("1 0 2; -2 3 -4")))
	check.Same(t, "AddRow(1, 1, -1)", g.AddRow(1, 1, num(-1)), api.OK)
	hold(t, "AddRow(1, 1, -1)", g, plainOf(mx("1 0 2; 0 0 0")))
	check.Same(t, "Len", g.Len(), 2)
	check.Same(t, "AddRow(0, 2, 0)", g.AddRow(0, 2, num(0)), api.ErrArg)
	check.Same(t, "Swap(0, 1)", g.Swap(0, 1), api.OK)
	holdPlaces(t, "Places", g.Places(), []api.Place{at(1, 0, 1), at(1, 2, 2)})
}

func TestExampleFour(t *testing.T) {
	hold(t, "Mul", made(t, "Mul")(grid(t, "1 2; 0 0").Mul(grid(t, "2 0; -1 0"))), plain{rows: 2, cols: 2})
	row := grid(t, "1 2")
	g, e := row.Mul(grid(t, "1 2"))
	holdNone(t, "Mul", g, e, api.ErrFit)
	g, e = row.Add(grid(t, "-1 0; 0 0"))
	holdNone(t, "Add", g, e, api.ErrFit)
	hold(t, "Add of itself", made(t, "Add")(row.Add(row)), plainOf(mx("2 4")))
}

func TestExampleFive(t *testing.T) {
	g := filled(t, 1, 5000, 4096)
	check.Same(t, "Set(0, 4999, 1)", g.Set(0, 4999, num(1)), api.ErrLarge)
	check.Same(t, "Set(0, 4999, 0)", g.Set(0, 4999, num(0)), api.OK)
	check.Same(t, "Set(0, 4095, 9)", g.Set(0, 4095, num(9)), api.OK)
	check.Same(t, "Len", g.Len(), 4096)
}

func TestExampleSeven(t *testing.T) {
	turned := grid(t, "0 7; 0 0; 1 0").Turn()
	hold(t, "Turn", turned, plain{2, 3, []api.Place{at(0, 2, 1), at(1, 0, 7)}})
	a, e := fresh(t, 65, 1).Dense()
	check.Same(t, "Dense of New(65, 1)", e, api.ErrLarge)
	check.Mat(t, "Dense of New(65, 1)", a, api.Mat{})
}
