package snf_test

import (
	"testing"

	"trellis/check"
)

// The examples of the chapter.

// b is the matrix of the examples 5 and 6.
const b = "4 2 0; 2 6 2; 0 2 8"

func TestExamplesOfForm(t *testing.T) {
	for _, c := range [][2]string{
		{"2 4; 6 8", "2 0; 0 4"}, {"2 0; 0 3", "1 0; 0 6"}, {"4 0; 0 6", "2 0; 0 12"}, {"0 0; 0 5", "5 0; 0 0"}, {"0 -3", "3 0"}, {"6; 10; 15", "1; 0; 0"}, {"0x3", "0x3"}, {"3x0", "3x0"},
		{b, "2 0 0; 0 2 0; 0 0 36"}, {"1 2; 2 4", "1 0; 0 0"}, {"0 0", "0 0"},
	} {
		holdForm(t, mx(c[0]), mx(c[1]))
		check.Mat(t, "D of Full of "+c[0], holdFull(t, mx(c[0])).D, mx(c[1]))
	}
}

func TestExamplesOfDivisors(t *testing.T) {
	holdDivisors(t, mx(b), nums(1, 2, 4, 144))
	holdDivisors(t, mx("0 0"), nums(1, 0))
	holdDivisors(t, mx("0x5"), nums(1))
}

func TestExamplesOfChain(t *testing.T) {
	holdChain(t, nums(4, 6), nums(2, 12))
	holdChain(t, nums(6, 10, 15), nums(1, 30, 30))
	holdChain(t, nums(0, -2, 0), nums(2, 0, 0))
	holdChain(t, nil, nil)
	holdChain(t, nums(0, 1), nums(1, 0))
}

func TestExamplesOfTelling(t *testing.T) {
	for text, want := range map[string]bool{"1 0 0; 0 6 0": true, "2 0; 0 3": false, "-1": false, "1 1": false, "0 0; 0 1": false, "0 0; 0 0": true, "0x0": true} {
		holdIsForm(t, mx(text), want)
	}
	holdSame(t, mx("2 4; 6 8"), mx("0 4; 2 0"), true)
	holdSame(t, mx("1"), mx("1 0"), false)
	holdSame(t, mx("2 0; 0 3"), mx("1 0; 0 6"), true)
	holdSame(t, mx("2 0; 0 2"), mx("1 0; 0 4"), false)
}

func TestExampleOfFull(t *testing.T) {
	full := holdFull(t, mx("6 4"))
	check.Mat(t, "D of Full of 6 4", full.D, mx("2 0"))
	check.Mat(t, "U times U of Full of 6 4", product(full.U, full.U), mx("1"))
}
