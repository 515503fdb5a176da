package steps_test

import (
	"testing"

	"trellis/api"
	"trellis/check"
	"trellis/steps"
)

// The chapter's examples, in its order.
func TestExamplesOfRowsAndCols(t *testing.T) {
	a, e := steps.Rows(mx("1 2; 3 4"), list{add(0, 1, -2)})
	check.Same(t, "Rows", e, api.OK)
	check.Mat(t, "Rows", a, mx("-5 -6; 3 4"))
	a, e = steps.Cols(mx("1 2; 3 4"), list{add(0, 1, -2)})
	check.Same(t, "Cols", e, api.OK)
	check.Mat(t, "Cols", a, mx("-3 2; -5 4"))
	a, e = steps.Rows(mx("1 2; 3 4"), list{swap(0, 1), negate(2)})
	check.Same(t, "Rows with a step that is not fit", e, api.ErrArg)
	check.Mat(t, "Rows with a step that is not fit", a, api.Mat{})
	_, e = steps.Rows(mx("0x3"), list{swap(0, 0)})
	check.Same(t, "Rows of no rows", e, api.ErrArg)
	a, e = steps.Rows(mx("0x3"), list{})
	check.Same(t, "Rows of no rows, no steps", e, api.OK)
	check.Mat(t, "Rows of no rows, no steps", a, mx("0x3"))
}

func TestExamplesOfCheck(t *testing.T) {
	for _, c := range []struct {
		n     int
		s     list
		place int
		e     api.Errno
	}{
		{2, list{swap(0, 1), negate(2), swap(5, 5)}, 1, api.ErrArg},
		{2, list{swap(1, 1)}, -1, api.OK},
		{65, list{}, -1, api.ErrArg},
		{0, list{negate(0)}, 0, api.ErrArg},
		{3, list{add(2, 2, 0)}, 0, api.ErrArg},
	} {
		place, e := steps.Check(c.n, c.s)
		check.Same(t, "Check: place", place, c.place)
		check.Same(t, "Check", e, c.e)
	}
}

func TestExamplesOfLists(t *testing.T) {
	back, e := steps.Inverse(3, list{add(0, 1, 3), swap(0, 2), negate(1)})
	check.Same(t, "Inverse", e, api.OK)
	holdSteps(t, "Inverse", back, list{negate(1), swap(0, 2), add(0, 1, -3)})
	a, e := steps.Matrix(2, list{swap(0, 1), add(0, 1, 5)})
	check.Same(t, "Matrix", e, api.OK)
	check.Mat(t, "Matrix", a, mx("5 1; 1 0"))
	a, e = steps.Matrix(0, list{})
	check.Same(t, "Matrix(0, [])", e, api.OK)
	check.Mat(t, "Matrix(0, [])", a, api.Mat{})
	_, e = steps.Matrix(65, list{})
	check.Same(t, "Matrix(65, [])", e, api.ErrArg)
	for _, c := range []struct {
		n    int
		s    list
		sign int
		e    api.Errno
	}{
		{3, list{swap(0, 1), swap(2, 2), negate(2)}, 1, api.OK},
		{0, list{}, 1, api.OK},
		{2, list{swap(0, 1)}, -1, api.OK},
		{2, list{add(0, 1, -1)}, 1, api.OK},
		{2, list{negate(2)}, 0, api.ErrArg},
	} {
		sign, e := steps.Sign(c.n, c.s)
		check.Same(t, "Sign", sign, c.sign)
		check.Same(t, "Sign", e, c.e)
	}
}

func TestExamplesOfFactor(t *testing.T) {
	holdFactor(t, mx("0 1; 1 0"))
	holdNone(t, mx("2 0; 0 1"))
	holdFactor(t, api.Mat{})
	_, e := steps.Factor(mx("1 0"))
	check.Same(t, "Factor of a row", e, api.ErrFit)
	holdFactor(t, mx("5 2; 2 1"))
}

func TestExampleOfUndo(t *testing.T) {
	p := tape(t, mx("2 0; 0 3"))
	check.Same(t, "Do(Add 0 1 by 1)", p.Do(add(0, 1, 1)), api.OK)
	check.Mat(t, "Now", p.Now(), mx("2 3; 0 3"))
	check.Same(t, "Undo", p.Undo(), true)
	check.Mat(t, "Now", p.Now(), mx("2 0; 0 3"))
	check.Same(t, "steps of Log", len(p.Log()), 0)
	check.Same(t, "Redo", p.Redo(), true)
	check.Same(t, "Undo", p.Undo(), true)
	check.Same(t, "Do(Negate 2)", p.Do(negate(2)), api.ErrArg)
	check.Same(t, "Redo", p.Redo(), true)
	check.Same(t, "Undo", p.Undo(), true)
	check.Same(t, "Do(Negate 0)", p.Do(negate(0)), api.OK)
	check.Mat(t, "Now", p.Now(), mx("-2 0; 0 3"))
	check.Same(t, "Redo", p.Redo(), false)
	check.Same(t, "Undo", p.Undo(), true)
	check.Same(t, "Undo", p.Undo(), false)
}

func TestExamplesOfSidesAndLog(t *testing.T) {
	for _, text := range []string{"2 0; 0 3", "2x0", "1; 7"} {
		p := tape(t, mx(text))
		check.Same(t, "Do(Swap 0 1)", p.Do(swap(0, 1)), api.OK)
		check.Same(t, "Do(Add 0 1 by 5)", p.Do(add(0, 1, 5)), api.OK)
		u, w := p.Sides()
		check.Mat(t, "the first side", u, mx("5 1; 1 0"))
		check.Mat(t, "the second side", w, mx("0 1; 1 -5"))
	}
	p := tape(t, mx("1 2; 3 4"))
	check.Same(t, "Do", p.Do(api.Step{Kind: api.Negate, I: 1, J: 77, K: num(8)}), api.OK)
	holdSteps(t, "Log", p.Log(), list{negate(1)})
}
