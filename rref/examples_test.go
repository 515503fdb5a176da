package rref_test

import (
	"testing"

	"trellis/api"
	"trellis/check"
	"trellis/rref"
)

// The chapter's examples, in its order.
func TestExamplesOfForm(t *testing.T) {
	for _, c := range []struct {
		q, want string
		columns []int
	}{
		{"2 4; 1 3", "1 0; 0 1", []int{0, 1}},
		{"0 2 4; 0 1 2; 0 3 7", "0 1 0; 0 0 1; 0 0 0", []int{1, 2}},
		{"1/2 1/3", "1 2/3", []int{0}},
		{"0 0", "0 0", nil},
	} {
		holdForm(t, mx(c.q), mx(c.want), c.columns)
	}
}

func TestExamplesOfKernel(t *testing.T) {
	for q, want := range map[string]string{"1 2; 2 4; 0 1": "1 -1/2 0", "2x0": "1 0; 0 1", "0x3": "0x0"} {
		holdKernel(t, mx(q), mx(want))
	}
}

func TestExamplesOfSolve(t *testing.T) {
	holdSolve(t, mx("1 2; 2 4; 0 1"), row("1 3"), row("0 1/2 1"))
	holdSolve(t, mx("0x2"), row("0 0"), nil)
	for _, c := range []struct {
		q, b string
		e    api.Errno
	}{
		{"1 2; 2 4", "1 3", api.ErrNone}, {"1 2", "1", api.ErrFit}, {"0x2", "0 1", api.ErrNone},
	} {
		got, e := rref.Solve(mx(c.q), row(c.b))
		holdRefusal(t, of("Solve of "+c.b, mx(c.q)), got, e, c.e)
	}
}

func TestExamplesOfInverse(t *testing.T) {
	holdInverse(t, mx("1 2; 3 4"), mx("-2 1; 3/2 -1/2"))
	holdInverse(t, mx("0x0"), mx("0x0"))
	for q, want := range map[string]api.Errno{"1 2; 2 4": api.ErrNone, "1 2": api.ErrFit} {
		got, e := inverse(mx(q))
		holdRefusal(t, of("Inverse", mx(q)), got, e, want)
	}
}

func TestExamplesOfClear(t *testing.T) {
	holdClear(t, mx("1/2 -2/3; 4 5"), whole("3 -4; 4 5"), nums(6, 1))
	holdClear(t, mx("0 0"), whole("0 0"), nums(1))
	holdClear(t, mx("2/4 1"), whole("1 2"), nums(2))
}

func TestExamplesOfMul(t *testing.T) {
	holdMul(t, mx("1/2 1/3"), mx("2; 3"), mx("2"))
	for p, q := range map[string]string{"1 2": "1 2", "1/0": "1; 2"} {
		got, e := rref.Mul(mx(p), mx(q))
		holdRefusal(t, of("Mul", mx(p))+called(mx(q)), told(got), e, api.ErrFit)
	}
}

func TestExamplesOfCheck(t *testing.T) {
	none := row("1/0")
	check.Same(t, "Check of one entry for two", rref.Check(api.QMat{Rows: 1, Cols: 2, At: none}), api.ErrMat)
	check.Same(t, "Check of 1/0", rref.Check(api.QMat{Rows: 1, Cols: 1, At: none}), api.ErrZero)
}
