package hnf_test

import (
	"slices"
	"testing"

	"trellis/api"
	"trellis/check"
	"trellis/hnf"
)

// The examples of the chapter.

func TestExamplesOfForm(t *testing.T) {
	for _, c := range [][2]string{
		{"4 6; 6 9", "2 3; 0 0"}, {"2 3; 0 5", "2 3; 0 5"}, {"2 8; 0 5", "2 3; 0 5"}, {"0 -3; -2 1", "2 2; 0 3"}, {"0x3", "0x3"}, {"2x0", "2x0"},
	} {
		holdForm(t, mx(c[0]), mx(c[1]))
	}
}

func TestExamplesOfFull(t *testing.T) {
	for _, c := range [][4]string{
		{"4 6; 6 9", "2 3; 0 0", "2 -1; 3 -2", "2 -1; 3 -2"}, {"-5", "5", "-1", "-1"}, {"0; 0", "0; 0", "1 0; 0 1", "1 0; 0 1"}, {"2; 3", "1; 0", "2 -1; 3 -2", "2 -1; 3 -2"},
	} {
		full := holdFull(t, mx(c[0]))
		check.Mat(t, of("H of Full", mx(c[0])), full.H, mx(c[1]))
		check.Mat(t, of("U of Full", mx(c[0])), full.U, mx(c[2]))
		check.Mat(t, of("W of Full", mx(c[0])), full.W, mx(c[3]))
	}
}

func TestExamplesOfBasis(t *testing.T) {
	holdBasis(t, mx("4 6; 6 9"), mx("2 3"))
	holdBasis(t, mx("0 0"), mx("0x2"))
}

func TestExamplesOfTelling(t *testing.T) {
	holdIsForm(t, mx("2 5; 0 5"), false)
	holdIsForm(t, mx("2 4; 0 5"), true)
	holdIsForm(t, mx("0 0; 1 0"), false)
	holdPivots(t, mx("0 2 4; 0 0 5; 0 0 0"), []int{1, 2})
	holdPivots(t, mx("0x2"), nil)
	cols, e := hnf.Pivots(mx("-1"))
	holdRefusal(t, "Pivots(-1)", nums(cols...), e, api.ErrForm)
}

func TestExamplesOfReduce(t *testing.T) {
	holdReduce(t, mx("2 3; 0 5"), nums(7, -4), nums(1, 2), nums(3, -3))
	holdReduce(t, mx("0 2; 0 0"), nums(-1, -1), nums(-1, 1), nums(-1, 0))
	holdReduce(t, mx("0x2"), nums(3, 4), nums(3, 4), nil)
	rest, c, e := hnf.Reduce(mx("2 5; 0 5"), nums(1, 1, 1))
	holdRefusal(t, "Reduce(2 5; 0 5, {1, 1, 1})", slices.Concat(rest, c), e, api.ErrFit)
	rest, c, e = hnf.Reduce(mx("2 5; 0 5"), nums(1, 1))
	holdRefusal(t, "Reduce(2 5; 0 5, {1, 1})", slices.Concat(rest, c), e, api.ErrForm)
}

func TestExamplesOfInsert(t *testing.T) {
	holdInsert(t, mx("2 3; 0 5"), nums(1, 0), mx("1 0; 0 1"))
	holdInsert(t, mx("0x2"), nums(0, -4), mx("0 4"))
	holdInsert(t, mx("0 0; 0 0"), nums(0, 0), mx("0x2"))
}
