package lll_test

import (
	"trellis/api"
	"trellis/check"
	"trellis/frac"
	"trellis/zint"
)

// What the calls are held against: the chapter's own words, fraction by fraction.

// words are rows with their ci and mu(i, j), as far as the rows are independent.
type words struct {
	c, mu       [][]api.Frac
	independent bool
}

// wordsOf goes down the rows of b.
func wordsOf(b api.Mat) words {
	w := words{independent: true}
	for i := range b.Rows {
		line := fractions(lineOf(b, i))
		c := line
		var mu []api.Frac
		for _, other := range w.c {
			times := quotient(line, other)
			c = less(c, times, other)
			mu = append(mu, times)
		}
		if cmp(times(c, c), check.Over(0, 1)) == 0 {
			w.independent = false
			return w
		}
		w.c, w.mu = append(w.c, c), append(w.mu, mu)
	}
	return w
}

// isReducedByWords says if b's rows are a reduced basis.
func isReducedByWords(b api.Mat) bool {
	w := wordsOf(b)
	if !w.independent {
		return false
	}
	for i, mu := range w.mu {
		for _, m := range mu {
			if cmp(m, check.Over(-1, 2)) < 0 || cmp(m, check.Over(1, 2)) > 0 {
				return false
			}
		}
		if i == 0 {
			continue
		}
		square, _ := frac.Mul(mu[i-1], mu[i-1])
		part, _ := frac.Sub(check.Over(3, 4), square)
		least, _ := frac.Mul(part, times(w.c[i-1], w.c[i-1]))
		if cmp(times(w.c[i], w.c[i]), least) < 0 {
			return false
		}
	}
	return true
}

// nearByWords is the row of b's lattice near v; b's rows are independent.
func nearByWords(b api.Mat, v []api.Int) []api.Int {
	w := wordsOf(b)
	left, near := v, make([]api.Int, len(v))
	for i := b.Rows - 1; i >= 0; i-- {
		m := rounded(quotient(fractions(left), w.c[i]))
		left = sumOf(left, zint.Neg(m), lineOf(b, i))
		near = sumOf(near, m, lineOf(b, i))
	}
	return near
}

// rounded is the integer nearest to f: of the two between which it lies the nearer one, or the even one.
func rounded(f api.Frac) api.Int {
	below, _ := frac.Floor(f)
	above := zint.Add(below, num(1))
	up, _ := frac.Sub(api.Frac{Num: above, Den: num(1)}, f)
	down, _ := frac.Sub(f, api.Frac{Num: below, Den: num(1)})
	rest, _ := zint.Mod(below, num(2))
	switch c := cmp(down, up); {
	case c < 0, c == 0 && zint.Sign(rest) == 0:
		return below
	default:
		return above
	}
}

// fractions is a row as one of fractions.
func fractions(v []api.Int) []api.Frac {
	list := make([]api.Frac, len(v))
	for i, n := range v {
		list[i], _ = frac.Of(n, num(1))
	}
	return list
}

// times is the product of two rows.
func times(v, w []api.Frac) api.Frac {
	sum := check.Over(0, 1)
	for i, f := range v {
		one, _ := frac.Mul(f, w[i])
		sum, _ = frac.Add(sum, one)
	}
	return sum
}

// quotient is (v . c) / (c . c).
func quotient(v, c []api.Frac) api.Frac {
	q, _ := frac.Div(times(v, c), times(c, c))
	return q
}

// less is a row less another, as often as a fraction says.
func less(v []api.Frac, often api.Frac, w []api.Frac) []api.Frac {
	left := make([]api.Frac, len(v))
	for i, f := range v {
		one, _ := frac.Mul(often, w[i])
		left[i], _ = frac.Sub(f, one)
	}
	return left
}

func cmp(f, g api.Frac) int {
	c, _ := frac.Cmp(f, g)
	return c
}
