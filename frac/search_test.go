package frac_test

import (
	"fmt"
	"testing"

	"trellis/api"
	"trellis/check"
	"trellis/frac"
)

// What these answer is found by search among the language's own numbers, by the document's words.

// searchLowest is n/d with the least denominator above 0 that it can be written with; d is not 0.
func searchLowest(n, d int) api.Frac {
	least := 1
	for n*least%d != 0 {
		least++
	}
	return over(n*least/d, least)
}

// searchFloor is the greatest integer that is not above n/d; d is not 0.
func searchFloor(n, d int) int {
	if d < 0 {
		n, d = -n, -d
	}
	below := -100
	for (below+1)*d <= n {
		below++
	}
	return below
}

// searchNearest goes from the one below n/d to the one above, if that is nearer, or as near and even.
func searchNearest(n, d int) int {
	below := searchFloor(n, d)
	down, up := size(n-below*d), size((below+1)*d-n)
	if up < down || up == down && below%2 != 0 {
		return below + 1
	}
	return below
}

func size(v int) int { return max(v, -v) }

// eachSmall gives all the fractions with small numbers.
func eachSmall(reach int, yield func(n, d int)) {
	for n := -reach; n <= reach; n++ {
		for d := -reach; d <= reach; d++ {
			if d != 0 {
				yield(n, d)
			}
		}
	}
}

// P8.1, P8.4, P8.7 and P8.8.
func TestOnesBySearch(t *testing.T) {
	eachSmall(40, func(n, d int) {
		low, e := frac.Of(num(n), num(d))
		hold(t, fmt.Sprintf("Of(%d, %d)", n, d), low, e, searchLowest(n, d))
		below, e := frac.Floor(over(n, d))
		check.Int(t, fmt.Sprintf("Floor(%d/%d)", n, d), below, num(searchFloor(n, d)))
		check.Same(t, fmt.Sprintf("Floor(%d/%d)", n, d), e, api.OK)
		nearest, e := frac.Nearest(over(n, d))
		check.Int(t, fmt.Sprintf("Nearest(%d/%d)", n, d), nearest, num(searchNearest(n, d)))
		check.Same(t, fmt.Sprintf("Nearest(%d/%d)", n, d), e, api.OK)
		holdChain(t, over(n, d), low)
	})
}

// P8.2 and P8.3.
func TestPairsBySearch(t *testing.T) {
	eachSmall(7, func(n, d int) {
		eachSmall(7, func(m, c int) {
			pair := fmt.Sprintf("(%d/%d, %d/%d)", n, d, m, c)
			got, e := frac.Add(over(n, d), over(m, c))
			hold(t, "Add"+pair, got, e, searchLowest(n*c+m*d, d*c))
			got, e = frac.Sub(over(n, d), over(m, c))
			hold(t, "Sub"+pair, got, e, searchLowest(n*c-m*d, d*c))
			got, e = frac.Mul(over(n, d), over(m, c))
			hold(t, "Mul"+pair, got, e, searchLowest(n*m, d*c))
			got, e = frac.Div(over(n, d), over(m, c))
			if m == 0 {
				holdRefusal(t, "Div"+pair, got, e, api.ErrZero)
			} else {
				hold(t, "Div"+pair, got, e, searchLowest(n*c, d*m))
			}
			// As floats such fractions are far enough from each other.
			check.Same(t, "Cmp"+pair, order(t, over(n, d), over(m, c)), floatOrder(float64(n)/float64(d), float64(m)/float64(c)))
		})
	})
}

func floatOrder(a, b float64) int {
	switch {
	case a < b:
		return -1
	case a > b:
		return 1
	default:
		return 0
	}
}
