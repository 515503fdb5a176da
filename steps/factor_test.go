package steps_test

import (
	"fmt"
	"testing"

	"trellis/api"
	"trellis/check"
	"trellis/mat"
	"trellis/steps"
	"trellis/zint"
)

// holdFactor asks for steps that are fit and make u.
func holdFactor(t *testing.T, u api.Mat) {
	t.Helper()
	s, e := steps.Factor(u)
	if e != api.OK {
		t.Errorf("Factor(%v): errno %d", u, e)
		return
	}
	place, e := steps.Check(u.Rows, s)
	if place != -1 || e != api.OK {
		t.Errorf("Factor(%v): step %d of %v is not fit", u, place, s)
		return
	}
	got, _ := steps.Matrix(u.Rows, s)
	want, _ := mat.Least(u)
	check.Mat(t, "the matrix of Factor", got, want)
	// R1: what is answered is in least form, and what has no meaning is 0.
	holdSteps(t, "Factor", s, bare(s))
}

// holdNone asks for ErrNone, and no steps.
func holdNone(t *testing.T, u api.Mat) {
	t.Helper()
	s, e := steps.Factor(u)
	if e != api.ErrNone || len(s) > 0 {
		t.Errorf("Factor(%v): %v, errno %d, want ErrNone", u, s, e)
	}
}

// holdEither asks for steps, or for ErrNone, as the determinant says.
func holdEither(t *testing.T, u api.Mat) {
	t.Helper()
	if zint.CmpAbs(determinant(u), num(1)) == 0 {
		holdFactor(t, u)
	} else {
		holdNone(t, u)
	}
}

// P11.6.
func TestFactor(t *testing.T) {
	for _, text := range []string{
		"0x0", "1", "-1", "0 1; 1 0", "0 -1; 1 0", "5 2; 2 1", "2 1; 1 1", "1 0; 0 1", "-1 0; 0 -1", "1 1000; 0 -1", "1 0; -77 1",
		"1 2 3; 0 1 4; 0 0 -1", "2 3 5; 1 2 3; 3 4 8", "0 0 1; 0 1 0; 1 0 0", "0 1 0; 0 0 1; 1 0 0", "6 10 15; 1 0 1; 0 1 1",
		"0 0 0 1; 1 0 0 0; 0 -1 0 0; 0 0 1 0", "0 2 3 1; 0 3 5 1; 1 7 9 1; 0 0 0 1",
	} {
		holdFactor(t, mx(text))
	}
	for _, text := range []string{"0", "2", "-2", "2 0; 0 1", "1 1; 1 1", "0 0; 0 0", "0 1; 0 0", "1 0; 0 -2", "1 2; 3 4", "1 2 3; 4 5 6; 7 8 9", "1 0 0; 0 1 0; 0 0 0", "0 1 0; 0 0 1; 0 1 1", "2 0 0; 0 2 0; 0 0 2", "6 10 15; 1 0 0; 0 1 0"} {
		holdNone(t, mx(text))
	}
	for _, text := range []string{"1 0", "1; 0", "0x1", "1x0", "0x64", "64x0", "1 0 0; 0 1 0", "1 0; 0 1; 0 0"} {
		s, e := steps.Factor(mx(text))
		check.Same(t, "Factor of "+text, e, api.ErrFit)
		check.Same(t, "Factor of "+text+": steps", len(s), 0)
	}
}

// P11.6 for all matrices of small entries.
func TestFactorAllSmall(t *testing.T) {
	for _, c := range []struct{ n, least, greatest int }{{1, -5, 5}, {2, -4, 4}, {3, -1, 1}} {
		a := api.Mat{Rows: c.n, Cols: c.n, At: make([]api.Int, c.n*c.n)}
		var fill func(place int)
		fill = func(place int) {
			if place == len(a.At) {
				holdEither(t, a)
				return
			}
			for v := c.least; v <= c.greatest; v++ {
				a.At[place] = num(v)
				fill(place + 1)
			}
		}
		fill(0)
	}
}

// P11.6 for what steps make, up to 64 rows, and with one row taken several times no more.
func TestFactorOfSteps(t *testing.T) {
	for _, n := range []int{1, 2, 3, 4, 7, 20, 64} {
		for seed := range uint64(4) {
			for _, s := range []list{someSteps(n, 12, seed, large()), someSteps(n, 12*n, seed, small()), someSteps(n, 3*n, seed, nums(0, 1))} {
				u, _ := steps.Matrix(n, s)
				holdFactor(t, u)
				turned, _ := mat.Turn(u)
				holdFactor(t, turned)
				row := int(seed) % n
				for _, times := range []api.Int{num(0), num(2), num(-3), plus(1, 1), minus(0, 0, 1)} {
					worse, _ := mat.Least(u)
					for j := range n {
						worse.At[row*n+j] = zint.Mul(times, worse.At[row*n+j])
					}
					holdNone(t, worse)
				}
			}
		}
	}
}

// P11.6: entries of many words and in any form; determinants that only a look at all words tells from 1.
func TestFactorLarge(t *testing.T) {
	long := plus(append(check.Mixed(40, 1), 0)...)
	next := zint.Add(long, num(1))
	square := func(a, b, c, d api.Int) api.Mat { return api.Mat{Rows: 2, Cols: 2, At: []api.Int{a, b, c, d}} }
	holdFactor(t, square(next, long, num(1), plus(1, 0)))
	holdFactor(t, square(long, next, plus(1, 0), num(1)))
	holdFactor(t, square(minus(1, 0), minus(0, 0), long, plus(1, 0, 0)))
	holdFactor(t, square(plus(1, 0), minus(top, top, top, 0), minus(0), minus(1, 0)))
	for _, d := range []api.Int{plus(1, 1), minus(1, 1), plus(0, 1), minus(top), plus(1, 0, 1), zint.Add(zint.Mul(long, long), num(1))} {
		holdNone(t, api.Mat{Rows: 1, Cols: 1, At: []api.Int{d}})
		holdNone(t, square(num(1), long, num(0), d))
		holdNone(t, square(d, num(0), long, num(-1)))
		holdNone(t, square(zint.Mul(long, d), num(-1), zint.Add(zint.Mul(long, d), d), num(-1)))
	}
	pair, _ := mat.Mul(square(next, long, num(1), num(1)), square(num(1), num(0), long, num(-1)))
	holdFactor(t, pair)
	fifth, _ := mat.Pow(pair, 5)
	holdFactor(t, fifth)
}

// P11.6: 64 rows of whatever numbers are no unimodular matrix, and a call that refuses them ends too.
func TestFactorOfWhatever(t *testing.T) {
	for _, rows := range []int{5, 12, 64} {
		var list []api.Int
		for _, word := range check.Mixed(rows*rows, uint64(rows)) {
			list = append(list, num(int(word%19)-9))
		}
		a := check.Filled(rows, rows, list)
		holdNone(t, a)
		// The same row again: the determinant is 0.
		for j := range rows {
			a.At[(rows-1)*rows+j] = a.At[j]
		}
		holdNone(t, a)
	}
}

// R5: the same matrix has the same steps each time.
func TestFactorAgain(t *testing.T) {
	for seed := range uint64(3) {
		u := multipliers(6, someSteps(6, 20, seed, large()))
		first, _ := steps.Factor(u)
		second, e := steps.Factor(u)
		check.Same(t, "Factor", e, api.OK)
		holdSteps(t, fmt.Sprintf("Factor of %v, again", u), second, first)
	}
}
