package lll_test

import (
	"slices"
	"testing"

	"trellis/api"
	"trellis/check"
	"trellis/lll"
)

// The examples of the chapter.

func TestExamplesOfGram(t *testing.T) {
	check.Mat(t, "Gram(1 2; 3 4)", holdGram(t, mx("1 2; 3 4")), mx("5 11; 11 25"))
	check.Mat(t, "Gram(2x0)", holdGram(t, mx("2x0")), mx("0 0; 0 0"))
	check.Ints(t, "Dets(1 2; 3 4)", holdDets(t, mx("1 2; 3 4")), nums(1, 5, 4))
	check.Ints(t, "Dets(1 2; 2 4; 0 1)", holdDets(t, mx("1 2; 2 4; 0 1")), nums(1, 5, 0, 0))
	check.Ints(t, "Dets(0x3)", holdDets(t, mx("0x3")), nums(1))
}

func TestExamplesOfIsReduced(t *testing.T) {
	for text, want := range map[string]bool{"1 0; 0 1": true, "2 0; 1 2": true, "2 0; -1 1": false, "1 0; 1 1": false, "0 0": false, "3 0; 1 2": false, "1 2; 3 0": false} {
		holdIsReduced(t, mx(text), want)
		check.Same(t, "by the chapter's words: "+text, isReducedByWords(mx(text)), want)
	}
}

func TestExamplesOfReduce(t *testing.T) {
	holdReduce(t, mx("1 0; 4 1"))
	b, by := holdReduce(t, mx("0 0; 0 0"))
	check.Mat(t, "b of Reduce(0 0; 0 0)", b, mx("0x2"))
	check.Mat(t, "t of Reduce(0 0; 0 0)", by, mx("0x2"))
	b, _ = holdReduce(t, mx("2; 3"))
	check.Int(t, "square of b of Reduce(2; 3)", squareOf(b.At), num(1))
}

func TestExamplesOfNear(t *testing.T) {
	for _, c := range [][3]string{
		{"2 0; 0 2", "3 1", "4 0"}, {"2 0; 0 2", "-3 5", "-4 4"}, {"1 0; 1 2", "1 3", "1 4"}, {"0x2", "5 6", "0 0"},
	} {
		b, v := mx(c[0]), row(c[1])
		check.Ints(t, at("Near", b, v), holdNear(t, b, v), row(c[2]))
	}
	got, e := lll.Near(mx("1 2; 2 4"), nums(0, 0))
	holdRefusal(t, "Near(1 2; 2 4, {0, 0})", got, e, api.ErrForm)
	got, e = lll.Near(mx("1 2"), nums(0))
	holdRefusal(t, "Near(1 2, {0})", got, e, api.ErrFit)
}

func TestExamplesOfShortest(t *testing.T) {
	for _, c := range []struct {
		a    string
		rows []string
	}{
		{"2 0; 1 2", []string{"2 0", "-2 0"}}, {"6 4; 4 6", []string{"2 -2", "-2 2"}}, {"6; 10", []string{"2", "-2"}},
	} {
		line, square := holdShortest(t, mx(c.a))
		among := slices.ContainsFunc(c.rows, func(text string) bool {
			return slices.EqualFunc(line, row(text), func(n, m api.Int) bool { return n.Neg == m.Neg && slices.Equal(n.Mag, m.Mag) })
		})
		check.Same(t, "is it one of those of "+c.a, among, true)
		check.Int(t, "square", square, squareOf(row(c.rows[0])))
	}
	holdNoShortest(t, mx("0 0"), api.ErrNone)
	holdNoShortest(t, unitOf(6), api.ErrLarge)
}
