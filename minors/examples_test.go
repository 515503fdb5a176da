package minors_test

import (
	"testing"

	"trellis/api"
	"trellis/check"
	"trellis/minors"
)

// wide is the matrix a of the chapter's examples.
func wide() api.Mat { return mx("1 2 3; 4 5 6") }

// Example 1.
func TestExamplesOfSets(t *testing.T) {
	holdSets(t, 4, 2, [][]int{{0, 1}, {0, 2}, {0, 3}, {1, 2}, {1, 3}, {2, 3}})
	holdSets(t, 3, 0, [][]int{{}})
	for _, c := range [][2]int{{2, 3}, {-1, 0}, {5, -1}, {65, 1}, {65, 0}} {
		holdSets(t, c[0], c[1], nil)
	}
	for set := range minors.Sets(64, 32) {
		holdPlaces(t, "the first of Sets(64, 32)", set, first(32))
		break
	}
}

// Examples 2 and 3.
func TestExamplesOfMinor(t *testing.T) {
	holdMinor(t, wide(), []int{0, 1}, []int{0, 2}, num(-6))
	holdMinor(t, wide(), []int{1, 0}, []int{0, 2}, num(6))
	holdMinor(t, wide(), []int{0, 0}, []int{0, 2}, num(0))
	holdMinor(t, wide(), nil, nil, num(1))
	holdNoMinor(t, wide(), []int{0}, []int{0, 1}, api.ErrFit)
	holdNoMinor(t, wide(), []int{0, 2}, []int{0, 1}, api.ErrArg)
	holdNoMinor(t, wide(), []int{9}, nil, api.ErrFit)
}

// Example 4.
func TestExamplesOfGcd(t *testing.T) {
	holdGcd(t, wide(), 2, num(3))
	holdGcd(t, wide(), 1, num(1))
	holdGcd(t, wide(), 0, num(1))
	_, e := minors.Gcd(wide(), 3)
	check.Same(t, "Gcd(a, 3)", e, api.ErrArg)
	holdGcd(t, mx("0 0"), 1, num(0))
	holdGcd(t, mx("-6 4"), 1, num(2))
}

// Example 5: with each rank that tells, so that all minors are looked at.
func TestExamplesOfLargeGcd(t *testing.T) {
	for _, zeros := range []int{0, 1, 2, 64} {
		a := check.Filled(64, 64, nums(0))
		for i := range 64 - zeros {
			a.At[i*64+i] = num(2)
		}
		_, e := minors.Gcd(a, 2)
		check.Same(t, of("Gcd", a, 2), e, api.ErrLarge)
		for k, most := range map[int]api.Int{1: num(2), 63: plus(1 << 63), 64: plus(0, 1)} {
			if k > 64-zeros {
				most = num(0)
			}
			holdGcd(t, a, k, most)
		}
	}
}

// Example 6.
func TestExamplesOfCompound(t *testing.T) {
	holdCompound(t, wide(), 2, mx("-3 -6 -3"))
	holdCompound(t, wide(), 1, wide())
	holdCompound(t, wide(), 0, mx("1"))
	holdCompound(t, ones(4, 4), 2, ones(6, 6))
	_, e := minors.Compound(ones(12, 12), 2)
	check.Same(t, "Compound with 12 rows at 2", e, api.ErrLarge)
}

// Examples 7 to 9.
func TestExamplesOfInverse(t *testing.T) {
	holdAdjugate(t, mx("1 2; 3 4"), mx("4 -2; -3 1"))
	holdAdjugate(t, mx("5"), mx("1"))
	holdAdjugate(t, mx("0"), mx("1"))
	_, e := minors.Adjugate(mx("1 2"))
	check.Same(t, "Adjugate of [1 2]", e, api.ErrFit)
	holdInverse(t, mx("1 2; 3 4"), mx("-4 2; 3 -1"), num(2))
	holdInverse(t, mx("2 0; 0 2"), mx("1 0; 0 1"), num(2))
	holdInverse(t, mx("2 1; 1 1"), mx("1 -1; -1 2"), num(1))
	_, _, e = minors.Inverse(mx("1 2; 2 4"))
	check.Same(t, "Inverse of [1 2; 2 4]", e, api.ErrNone)
	_, _, e = minors.Inverse(mx("1 2"))
	check.Same(t, "Inverse of [1 2]", e, api.ErrFit)
}

// Example 10, and of other matrices without entries.
func TestExamplesOfNothing(t *testing.T) {
	holdAdjugate(t, mx("0x0"), mx("0x0"))
	holdInverse(t, mx("0x0"), mx("0x0"), num(1))
	for _, shape := range []string{"0x0", "0x5", "5x0", "64x0", "0x64"} {
		holdGcd(t, mx(shape), 0, num(1))
		holdCompound(t, mx(shape), 0, mx("1"))
	}
}
