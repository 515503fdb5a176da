package simplex_test

import (
	"testing"

	"trellis/api"
	"trellis/check"
	"trellis/simplex"
)

// The examples of the chapter.

const plane = "0 1 2, 0 2 3, 0 3 4, 0 4 5, 0 1 5, 1 2 4, 2 3 5, 1 3 4, 2 4 5, 1 3 5"

func TestExamplesOfFaces(t *testing.T) {
	check.SameLists(t, "Faces({2, 0}, {1})", holdFaces(t, cx("2 0, 1")), cx("0, 1, 2, 0 2"))
	check.SameLists(t, "Faces() of none", holdFaces(t, nil), nil)
	for _, facets := range [][][]int{{{}}, cx("1 1"), cx("0 1000")} {
		got, e := simplex.Faces(facets)
		holdNoLists(t, of("Faces", facets), got, e, api.ErrArg)
	}
	got, e := simplex.Faces(cx("0 1 2 3 4 5 6 7"))
	holdNoLists(t, "Faces({0, 1, 2, 3, 4, 5, 6, 7})", got, e, api.ErrLarge)
}

func TestExamplesOfBoundary(t *testing.T) {
	for k, want := range map[int]string{2: "1 -1 1", 1: "-1 1 0; -1 0 1; 0 -1 1", 0: "3x0", 3: "0x1", 9: "0x0"} {
		check.Mat(t, "Boundary({0, 1, 2})", holdBoundary(t, cx("0 1 2"), k), mx(want))
	}
	got, e := simplex.Boundary(cx("0"), -1)
	check.Same(t, "Boundary({0}, -1)", e, api.ErrArg)
	check.Mat(t, "Boundary({0}, -1)", got, mx("0x0"))
}

func TestExamplesOfPair(t *testing.T) {
	holdGroup(t, mx("2 -2"), mx("1; 1"), 0, nums(2))
	holdGroup(t, mx("0x2"), mx("2x0"), 2, nil)
	holdNoPair(t, mx("1"), mx("1"), api.ErrChain)
}

func TestExamplesOfHomology(t *testing.T) {
	holdAnswered(t, cx("0 1, 1 2, 0 2"), 1, 1, nil)
	holdAnswered(t, cx("0 1 2"), 1, 0, nil)
	holdAnswered(t, cx(plane), 1, 0, nums(2))
	holdBetti(t, cx("0 1, 5"), 2, 0)
	holdBetti(t, nil)
	holdBettiMod(t, cx(plane), 1, 2, 1)
	holdBettiMod(t, cx(plane), 2, 2, 1)
	holdBettiMod(t, cx(plane), 1, 3, 0)
	got, e := simplex.BettiMod(cx("0"), 0, 4)
	check.Same(t, "BettiMod({0}; 0, 4)", e, api.ErrPrime)
	check.Same(t, "BettiMod({0}; 0, 4)", got, 0)
	holdEuler(t, cx(plane), 1)
}

func TestExamplesOfParts(t *testing.T) {
	holdParts(t, cx("4 2, 1, 2 7"), cx("1, 2 4 7"))
	check.SameLists(t, "Cone({1, 0}, {3})", holdCone(t, cx("1 0, 3")), cx("0 1 2, 2 3"))
	check.SameLists(t, "Cone() of none", holdCone(t, nil), cx("0"))
}
