package steps_test

import (
	"fmt"
	"math"
	"slices"
	"testing"

	"trellis/api"
	"trellis/check"
	"trellis/mat"
	"trellis/steps"
	"trellis/zint"
)

const (
	top  = check.Top
	high = check.High
)

// The integers and matrices of the tests.
var (
	num, nums   = check.Num, check.Nums
	plus, minus = check.Plus, check.Minus
	mx          = check.Matrix
)

type list = []api.Step

func swap(i, j int) api.Step { return api.Step{Kind: api.Swap, I: i, J: j} }

func negate(i int) api.Step { return api.Step{Kind: api.Negate, I: i} }

func add(i, j, k int) api.Step { return addBy(i, j, num(k)) }

func addBy(i, j int, k api.Int) api.Step { return api.Step{Kind: api.Add, I: i, J: j, K: k} }

// holdSteps asks for a list of steps, field by field, each K in least form.
func holdSteps(t *testing.T, call string, got, want list) {
	t.Helper()
	same := slices.EqualFunc(got, want, func(a, b api.Step) bool {
		return a.Kind == b.Kind && a.I == b.I && a.J == b.J && a.K.Neg == b.K.Neg && slices.Equal(a.K.Mag, b.K.Mag)
	})
	if !same {
		t.Errorf("%s: %v, want %v", call, got, want)
	}
}

// bare is a list as it must be told: each K in least form, the fields without a meaning 0.
func bare(s list) list {
	var all list
	for _, one := range s {
		switch one.Kind {
		case api.Swap:
			all = append(all, swap(one.I, one.J))
		case api.Negate:
			all = append(all, negate(one.I))
		default:
			all = append(all, addBy(one.I, one.J, zint.Least(one.K)))
		}
	}
	return all
}

// fit are steps that are fit for n lines: all that there are of swaps and of negations, with anything in the fields that have no meaning, and an addition for each two lines.
func fit(n int) list {
	var all list
	kinds := []api.Int{num(0), num(1), minus(0), num(-1), plus(6, 0), minus(1, 0), minus(0, 1), plus(top, top, 0)}
	for i := range n {
		all = append(all, negate(i), api.Step{Kind: api.Negate, I: i, J: -9, K: minus(0, 0)}, api.Step{Kind: api.Negate, I: i, J: math.MaxInt, K: plus(5)}, api.Step{Kind: api.Negate, I: i, J: i})
		for j := range n {
			all = append(all, swap(i, j), api.Step{Kind: api.Swap, I: i, J: j, K: minus(7, 0)})
			if i != j {
				all = append(all, addBy(i, j, kinds[(3*i+5*j)%len(kinds)]))
			}
		}
	}
	return all
}

// unfit are steps that are not fit for n lines, in each way in which they may be not.
func unfit(n int) list {
	var all list
	for _, kind := range []int{0, 4, -1, -3, math.MinInt, math.MaxInt} {
		all = append(all, api.Step{Kind: kind, I: 0, J: 1, K: num(1)}, api.Step{Kind: kind})
	}
	for _, outside := range []int{-1, n, n + 1, 64, math.MinInt, math.MaxInt} {
		for i := -1; i < n; i++ {
			all = append(all, swap(outside, i), swap(i, outside), add(outside, i, 1), add(i, outside, 1), add(i, outside, 0))
		}
		all = append(all, negate(outside), api.Step{Kind: api.Negate, I: outside, J: 0}, swap(outside, outside), add(outside, outside, 2))
	}
	for i := range n {
		all = append(all, add(i, i, 1), add(i, i, 0), add(i, i, -2))
	}
	return all
}

// refusals are the calls that take a list of steps and refuse one that is not fit, with what they answer beside the error.
func refusals(n int, s list) map[string]func() (answer any, zero bool, e api.Errno) {
	none := func(a api.Mat) bool { return a.Rows == 0 && a.Cols == 0 && len(a.At) == 0 }
	return map[string]func() (any, bool, api.Errno){
		"Matrix": func() (any, bool, api.Errno) {
			a, e := steps.Matrix(n, s)
			return a, none(a), e
		},
		"Inverse": func() (any, bool, api.Errno) {
			list, e := steps.Inverse(n, s)
			return list, len(list) == 0, e
		},
		"Sign": func() (any, bool, api.Errno) {
			sign, e := steps.Sign(n, s)
			return sign, sign == 0, e
		},
		"Rows": func() (any, bool, api.Errno) {
			a, e := steps.Rows(check.Filled(n, 2, nums(1, 2, 3)), s)
			return a, none(a), e
		},
		"Rows without columns": func() (any, bool, api.Errno) {
			a, e := steps.Rows(api.Mat{Rows: n}, s)
			return a, none(a), e
		},
		"Cols": func() (any, bool, api.Errno) {
			a, e := steps.Cols(check.Filled(3, n, nums(1, 2, 3)), s)
			return a, none(a), e
		},
		"Cols without rows": func() (any, bool, api.Errno) {
			a, e := steps.Cols(api.Mat{Cols: n}, s)
			return a, none(a), e
		},
	}
}

// holdRefusal asks each call on lists for ErrArg, and for zero values beside it.
func holdRefusal(t *testing.T, n int, s list) {
	t.Helper()
	for name, call := range refusals(n, s) {
		answer, zero, e := call()
		if e != api.ErrArg || !zero {
			t.Errorf("%s with %d lines and %v: %v, errno %d, want ErrArg", name, n, s, answer, e)
		}
	}
}

// P11.1 to P11.5: each step is fit, or not, just as the chapter says, wherever it stands in the list.
func TestFit(t *testing.T) {
	for _, n := range []int{0, 1, 2, 3, 64} {
		all := fit(n)
		place, e := steps.Check(n, all)
		check.Same(t, fmt.Sprintf("Check(%d, all that are fit): place", n), place, -1)
		check.Same(t, fmt.Sprintf("Check(%d, all that are fit)", n), e, api.OK)
		few := all[:min(len(all), 3)]
		for _, bad := range unfit(n) {
			for _, s := range []list{{bad}, append(slices.Clone(few), bad), append(slices.Clone(few), bad, swap(-1, 0)), append(list{bad}, few...), {bad, bad}} {
				place, e := steps.Check(n, s)
				want := slices.IndexFunc(s, func(one api.Step) bool { return one.Kind == bad.Kind && one.I == bad.I && one.J == bad.J })
				check.Same(t, fmt.Sprintf("Check(%d, %v): place", n, s), place, want)
				check.Same(t, fmt.Sprintf("Check(%d, %v)", n, s), e, api.ErrArg)
				if n < 64 {
					holdRefusal(t, n, s)
				}
			}
		}
	}
	// What two lines do not bear, three may.
	for _, s := range []api.Step{swap(0, 2), swap(2, 2), negate(2), add(2, 0, 1), add(1, 2, 1)} {
		holdRefusal(t, 2, list{s})
		place, e := steps.Check(3, list{s})
		check.Same(t, "Check of three lines: place", place, -1)
		check.Same(t, "Check of three lines", e, api.OK)
	}
	for _, bad := range []api.Step{swap(63, 64), swap(64, 0), negate(64), add(0, 64, 1), add(64, 63, 1), add(63, 63, 1)} {
		holdRefusal(t, 64, list{swap(63, 0), bad})
	}
}

// P11.1.
func TestCheck(t *testing.T) {
	for _, c := range []struct {
		n     int
		s     list
		place int
		e     api.Errno
	}{
		{0, nil, -1, api.OK},
		{64, list{}, -1, api.OK},
		{64, list{add(63, 0, 5), swap(0, 63), negate(63)}, -1, api.OK},
		{64, list{add(63, 0, 5), swap(0, 63), negate(64)}, 2, api.ErrArg},
		{-1, nil, -1, api.ErrArg},
		{65, nil, -1, api.ErrArg},
		{65, list{negate(0)}, -1, api.ErrArg},
		{65, list{negate(0), negate(65)}, -1, api.ErrArg},
		{-1, list{negate(0)}, -1, api.ErrArg},
		{math.MinInt, list{{}}, -1, api.ErrArg},
		{math.MaxInt, list{{}}, -1, api.ErrArg},
		{2, list{swap(0, 1), negate(2), swap(5, 5)}, 1, api.ErrArg},
		{2, list{swap(0, 1), negate(1), swap(5, 5)}, 2, api.ErrArg},
		{2, list{{}, swap(0, 1), negate(1), swap(5, 5)}, 0, api.ErrArg},
		{2, list{{Kind: api.Negate, I: 1, J: 2, K: minus(0)}}, -1, api.OK},
	} {
		place, e := steps.Check(c.n, c.s)
		call := fmt.Sprintf("Check(%d, %v)", c.n, c.s)
		check.Same(t, call+": place", place, c.place)
		check.Same(t, call, e, c.e)
	}
	long := slices.Repeat(list{swap(0, 1), add(1, 0, 3), negate(0)}, 1000)
	place, e := steps.Check(2, append(long, negate(2), swap(0, 1)))
	check.Same(t, "Check of a long list: place", place, 3000)
	check.Same(t, "Check of a long list", e, api.ErrArg)
}

// P11.3 to P11.5: how many lines there may be.
func TestLines(t *testing.T) {
	for _, n := range []int{-1, 65, math.MinInt, math.MaxInt} {
		for _, s := range []list{nil, {}, {negate(0)}, {{}}} {
			a, e := steps.Matrix(n, s)
			check.Same(t, fmt.Sprintf("Matrix(%d, %v)", n, s), e, api.ErrArg)
			check.Mat(t, fmt.Sprintf("Matrix(%d, %v)", n, s), a, api.Mat{})
			back, e := steps.Inverse(n, s)
			check.Same(t, fmt.Sprintf("Inverse(%d, %v)", n, s), e, api.ErrArg)
			check.Same(t, fmt.Sprintf("Inverse(%d, %v): steps", n, s), len(back), 0)
			sign, e := steps.Sign(n, s)
			check.Same(t, fmt.Sprintf("Sign(%d, %v)", n, s), e, api.ErrArg)
			check.Same(t, fmt.Sprintf("Sign(%d, %v)", n, s), sign, 0)
		}
	}
	for n := range 65 {
		unit, _ := mat.Unit(n)
		a, e := steps.Matrix(n, nil)
		check.Same(t, "Matrix of no steps", e, api.OK)
		check.Mat(t, "Matrix of no steps", a, unit)
		sign, e := steps.Sign(n, list{})
		check.Same(t, "Sign of no steps", e, api.OK)
		check.Same(t, "Sign of no steps", sign, 1)
		back, e := steps.Inverse(n, nil)
		check.Same(t, "Inverse of no steps", e, api.OK)
		check.Same(t, "Inverse of no steps: steps", len(back), 0)
	}
}

// P11.2.
func TestRowsAndCols(t *testing.T) {
	for _, c := range []struct {
		before string
		s      list
		after  string
	}{
		{"1 2; 3 4", list{add(0, 1, -2)}, "-5 -6; 3 4"},
		{"1 2; 3 4", list{add(1, 0, -3)}, "1 2; 0 -2"},
		{"1 2; 3 4", list{add(1, 0, 0)}, "1 2; 3 4"},
		{"1 2; 3 4", list{addBy(1, 0, minus(0, 0))}, "1 2; 3 4"},
		{"1 2; 3 4", list{addBy(1, 0, minus(2, 0, 0))}, "1 2; 1 0"},
		{"1 2; 3 4", list{swap(0, 1)}, "3 4; 1 2"},
		{"1 2; 3 4", list{swap(1, 0)}, "3 4; 1 2"},
		{"1 2; 3 4", list{swap(1, 1)}, "1 2; 3 4"},
		{"1 2; 3 4", list{swap(0, 0), swap(0, 1), swap(0, 1)}, "1 2; 3 4"},
		{"1 2; 3 4", list{{Kind: api.Swap, I: 0, J: 1, K: num(9)}}, "3 4; 1 2"},
		{"1 2; 0 -4", list{negate(1)}, "1 2; 0 4"},
		{"1 2; 0 -4", list{{Kind: api.Negate, I: 0, J: 1, K: num(9)}}, "-1 -2; 0 -4"},
		{"1 2; 3 4", nil, "1 2; 3 4"},
		{"1 2; 3 4; 5 6", list{swap(0, 2), add(1, 0, 2)}, "5 6; 13 16; 1 2"},
		{"1 2; 3 4; 5 6", list{add(1, 0, 2), swap(0, 2)}, "5 6; 5 8; 1 2"},
		{"1 2; 3 4; 5 6", list{negate(2), add(0, 2, 1), add(2, 0, 1), negate(1)}, "-4 -4; -3 -4; -9 -10"},
		{"1 2 3", list{swap(0, 0), negate(0)}, "-1 -2 -3"},
		{"1; 2; 3", list{add(0, 1, 1), add(1, 2, 1), add(2, 0, 1)}, "3; 5; 6"},
		{"0x3", nil, "0x3"},
		{"0x0", list{}, "0x0"},
		{"3x0", list{swap(0, 2), negate(1), add(0, 2, 9)}, "3x0"},
		{"64x0", list{swap(0, 63), negate(63), add(63, 62, 9)}, "64x0"},
	} {
		a, e := steps.Rows(mx(c.before), c.s)
		call := fmt.Sprintf("Rows(%s, %v)", c.before, c.s)
		check.Same(t, call, e, api.OK)
		check.Mat(t, call, a, mx(c.after))
		turned, _ := mat.Turn(mx(c.before))
		want, _ := mat.Turn(mx(c.after))
		a, e = steps.Cols(turned, c.s)
		call = fmt.Sprintf("Cols(the transpose of %s, %v)", c.before, c.s)
		check.Same(t, call, e, api.OK)
		check.Mat(t, call, a, want)
	}
}

// P11.2: numbers that one word does not hold, and answers in least form whatever is handed in.
func TestRowsAndColsLarge(t *testing.T) {
	before := api.Mat{Rows: 2, Cols: 2, At: []api.Int{plus(top, 0), minus(0, 0), plus(1, 0), minus(0, high, 0)}}
	a, e := steps.Rows(before, nil)
	check.Same(t, "Rows of no steps", e, api.OK)
	check.Mat(t, "Rows of no steps", a, api.Mat{Rows: 2, Cols: 2, At: []api.Int{plus(top), num(0), num(1), minus(0, high)}})
	a, e = steps.Rows(before, list{addBy(0, 1, minus(top, 0)), negate(1), addBy(1, 0, plus(2))})
	check.Same(t, "Rows", e, api.OK)
	check.Mat(t, "Rows", a, api.Mat{Rows: 2, Cols: 2, At: []api.Int{num(0), plus(0, high, high-1), num(-1), plus(0, high, top)}})
	a, e = steps.Cols(before, list{addBy(1, 0, plus(0, 1)), negate(0)})
	check.Same(t, "Cols", e, api.OK)
	check.Mat(t, "Cols", a, api.Mat{Rows: 2, Cols: 2, At: []api.Int{minus(top), plus(0, top), num(-1), minus(0, high-1)}})
}

// P11.2, P11.6, P11.7: ErrMat ahead of all else.
func TestUnsound(t *testing.T) {
	for _, a := range check.Unsound() {
		call := fmt.Sprintf("a matrix %d by %d of %d entries", a.Rows, a.Cols, len(a.At))
		for _, s := range []list{nil, {negate(0)}, {{}}, {swap(-1, 99)}} {
			got, e := steps.Rows(a, s)
			check.Same(t, "Rows of "+call, e, api.ErrMat)
			check.Mat(t, "Rows of "+call, got, api.Mat{})
			got, e = steps.Cols(a, s)
			check.Same(t, "Cols of "+call, e, api.ErrMat)
			check.Mat(t, "Cols of "+call, got, api.Mat{})
		}
		s, e := steps.Factor(a)
		check.Same(t, "Factor of "+call, e, api.ErrMat)
		check.Same(t, "Factor of "+call, len(s), 0)
		tape, e := steps.New(a)
		check.Same(t, "New of "+call, e, api.ErrMat)
		check.Same(t, "New of "+call, tape, nil)
	}
}

// P11.4.
func TestInverse(t *testing.T) {
	for _, c := range []struct {
		n       int
		s, back list
	}{
		{0, nil, nil},
		{64, list{}, nil},
		{1, list{swap(0, 0)}, list{swap(0, 0)}},
		{1, list{negate(0), swap(0, 0)}, list{swap(0, 0), negate(0)}},
		{2, list{swap(1, 0)}, list{swap(1, 0)}},
		{2, list{add(0, 1, -7)}, list{add(0, 1, 7)}},
		{2, list{addBy(0, 1, minus(0, 0))}, list{add(0, 1, 0)}},
		{2, list{addBy(0, 1, plus(0))}, list{add(0, 1, 0)}},
		{2, list{addBy(1, 0, minus(0, high, 0))}, list{addBy(1, 0, plus(0, high))}},
		{2, list{{Kind: api.Negate, I: 1, J: 77, K: plus(8, 0)}}, list{negate(1)}},
		{2, list{{Kind: api.Negate, I: 1, J: math.MinInt, K: minus()}}, list{negate(1)}},
		{2, list{{Kind: api.Swap, I: 1, J: 0, K: minus(8)}}, list{swap(1, 0)}},
		{3, list{add(0, 1, 3), swap(0, 2), negate(1)}, list{negate(1), swap(0, 2), add(0, 1, -3)}},
		{64, list{add(0, 63, 3), add(63, 0, 2), swap(5, 5)}, list{swap(5, 5), add(63, 0, -2), add(0, 63, -3)}},
	} {
		back, e := steps.Inverse(c.n, c.s)
		call := fmt.Sprintf("Inverse(%d, %v)", c.n, c.s)
		check.Same(t, call, e, api.OK)
		holdSteps(t, call, back, c.back)
	}
}

// P11.5.
func TestSign(t *testing.T) {
	for _, c := range []struct {
		n    int
		s    list
		sign int
	}{
		{1, list{swap(0, 0)}, 1},
		{1, list{negate(0)}, -1},
		{2, list{swap(0, 1)}, -1},
		{2, list{swap(1, 0), swap(0, 1)}, 1},
		{2, list{swap(1, 1), swap(0, 1)}, -1},
		{2, list{negate(0), negate(1)}, 1},
		{2, list{negate(0), negate(0), negate(0)}, -1},
		{2, list{add(0, 1, -1)}, 1},
		{2, list{add(0, 1, -1), add(1, 0, 1), add(0, 1, -1)}, 1},
		{2, list{add(0, 1, -9), negate(1), add(1, 0, 0)}, -1},
		{2, list{addBy(0, 1, minus(0, 3))}, 1},
		{64, list{swap(0, 63), negate(63)}, 1},
		{64, slices.Repeat(list{swap(0, 63), add(0, 1, 2)}, 101), -1},
	} {
		sign, e := steps.Sign(c.n, c.s)
		call := fmt.Sprintf("Sign(%d, %v)", c.n, c.s)
		check.Same(t, call, e, api.OK)
		check.Same(t, call, sign, c.sign)
	}
}
