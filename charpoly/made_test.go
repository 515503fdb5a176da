package charpoly_test

import (
	"fmt"
	"testing"

	"trellis/api"
	"trellis/charpoly"
	"trellis/check"
	"trellis/made"
	"trellis/zint"
)

// blocks is the square matrix with the others along its diagonal.
func blocks(list ...api.Mat) api.Mat {
	n := 0
	for _, a := range list {
		n += a.Rows
	}
	whole, from := zero(n), 0
	for _, a := range list {
		for i := range a.Rows {
			copy(whole.At[(from+i)*n+from:], a.At[i*a.Rows:(i+1)*a.Rows])
		}
		from += a.Rows
	}
	return whole
}

// raised is the polynomial f to the power n.
func raised(f []api.Int, n int) []api.Int {
	p := nums(1)
	for range n {
		p = plainProduct(p, f)
	}
	return p
}

// part is a polynomial that no two parts of a matrix share a factor of, and the powers of it that stand in blocks of their own.
type part struct {
	f      []api.Int
	powers []int
}

// holdParts makes a matrix of the companion matrices of all the powers, hidden between a unimodular matrix and its inverse: its characteristic polynomial is the product of all, its least one that of the greatest power of each.
func holdParts(t *testing.T, s *made.Source, parts ...part) {
	t.Helper()
	var list []api.Mat
	char, least := nums(1), nums(1)
	for _, one := range parts {
		most := 0
		for _, n := range one.powers {
			p := raised(one.f, n)
			companion, e := charpoly.Companion(p)
			check.Same(t, fmt.Sprintf("Companion(%v)", p), e, api.OK)
			list = append(list, companion)
			char = plainProduct(char, p)
			most = max(most, n)
		}
		least = plainProduct(least, raised(one.f, most))
	}
	whole := blocks(list...)
	u, inverse, _ := s.Unimodular(whole.Rows)
	for _, a := range []api.Mat{whole, made.Turned(whole), made.Disguised(product(u, whole, inverse))} {
		holdChar(t, a, char)
		holdLeast(t, a, least)
	}
}

// P16.5, P16.6, P16.8: matrices of which both polynomials are known.
func TestParts(t *testing.T) {
	x, less, more := poly("0 1"), poly("-1 1"), poly("5 1")
	square, cube := poly("1 0 1"), poly("2 0 0 1")
	for i, parts := range [][]part{
		{{x, []int{1, 1}}}, {{x, []int{2, 1}}}, {{x, []int{3, 3}}}, {{x, []int{1, 2, 1, 4}}},
		{{less, []int{1, 1, 1}}}, {{less, []int{2, 1}}, {more, []int{1}}}, {{less, []int{2, 2}}, {more, []int{3, 1}}},
		{{square, []int{1, 1}}}, {{square, []int{2, 1}}, {x, []int{1, 2}}}, {{cube, []int{1, 1}}, {square, []int{1}}},
		{{x, []int{2}}, {less, []int{1, 1}}, {more, []int{2, 1}}, {square, []int{1, 2}}, {cube, []int{1, 1}}},
		{{x, []int{5, 4, 3, 2, 1}}}, {{cube, []int{3, 1}}}, {{more, []int{1, 1, 1, 1, 1, 1, 1}}},
	} {
		for words := range 2 {
			holdParts(t, &made.Source{Words: words, Seed: uint64(i)}, parts...)
		}
	}
}

// P16.5, P16.6, P16.8: the companion matrix of a polynomial has it as both.
func TestPolynomialsOfCompanions(t *testing.T) {
	for _, n := range []int{0, 1, 2, 3, 4, 6, 10, 17, 30} {
		for words := range 4 {
			s := &made.Source{Words: words, Seed: uint64(n)}
			p := monic(s, n)
			a, e := charpoly.Companion(p)
			check.Same(t, fmt.Sprintf("Companion(%v)", p), e, api.OK)
			holdChar(t, a, p)
			holdLeast(t, a, p)
			if n < 20 {
				twice := blocks(a, a)
				holdChar(t, twice, plainProduct(p, p))
				holdLeast(t, twice, p)
			}
		}
	}
}

// P16.5, P16.8: long numbers on the diagonal, some of them more than once, one of them in a block that has one 1 beside it.
func TestLongDiagonals(t *testing.T) {
	for words := range 12 {
		s := &made.Source{Words: words, Seed: uint64(words)}
		one, other := s.NotZero(), zint.Add(s.NotZero(), plus(0, 0, 0, 0, 0, 0, 0, 0, 0, 0, 0, 0, 0, 1))
		f, g := []api.Int{zint.Neg(one), num(1)}, []api.Int{zint.Neg(other), num(1)}
		holdParts(t, s, part{f, []int{1, 1, 1}}, part{g, []int{1, 1}})
		holdParts(t, s, part{f, []int{2, 1}}, part{g, []int{1, 1, 1}})
		holdParts(t, s, part{f, []int{1}}, part{g, []int{2, 2}})
		holdParts(t, s, part{f, []int{1}}, part{plainProduct(g, g), []int{1, 1}})
	}
}

// P16.8: an entry that has many factors in common with every number: x^2 is the least, however large it is, since a itself is not zero.
func TestLeastWithLargeEntry(t *testing.T) {
	for places := range 300 {
		for _, factor := range []api.Int{num(1), num(-3), plus(check.Mixed(4, uint64(places))...)} {
			entry := zint.Mul(factor, plus(append(make([]uint64, places/64), 1<<(places%64))...))
			if zint.Sign(entry) == 0 {
				continue
			}
			for _, a := range []api.Mat{zero(2), zero(5)} {
				a.At[a.Cols-1] = entry
				holdLeast(t, a, nums(0, 0, 1))
				holdLeast(t, made.Turned(a), nums(0, 0, 1))
			}
		}
	}
}

// P16.5, P16.7, P16.8: 64 rows and columns.
func TestLargest(t *testing.T) {
	s := &made.Source{Seed: 1}
	p := monic(s, 64)
	a, _ := charpoly.Companion(p)
	holdChar(t, a, p)
	holdLeast(t, a, p)
	minusOne := scaled(64, num(-1))
	holdChar(t, minusOne, raised(nums(1, 1), 64))
	holdLeast(t, minusOne, nums(1, 1))
	holdTraces(t, minusOne, 3, nums(-64, 64, -64))
	holdLeast(t, zero(64), nums(0, 1))
	u, inverse, _ := s.Unimodular(64)
	quarter, _ := charpoly.Companion(poly("3 -1 0 2 0 0 -5 0 1 0 0 0 4 0 -2 1 1"))
	hidden := product(u, blocks(quarter, quarter, quarter, quarter), inverse)
	least, _ := charpoly.LeastPoly(quarter)
	holdChar(t, hidden, raised(least, 4))
	holdLeast(t, hidden, least)
	holdAt(t, least, hidden, zero(64))
}

// falling is the product of x less each of the numbers.
func falling(numbers ...int) []api.Int {
	p := nums(1)
	for _, n := range numbers {
		p = plainProduct(p, nums(-n, 1))
	}
	return p
}

// P16.8: the greatest common divisor that the least polynomial is found by, of polynomials whose factors are known. Of some of them all values have a divisor in common that is not theirs.
func TestCommon(t *testing.T) {
	for _, c := range []struct{ p, q, want []api.Int }{
		{falling(1), falling(1), falling(1)},
		{falling(1), falling(2), nums(1)},
		{falling(1, 2), nums(6), nums(1)},
		{falling(1, 2, 3), nil, falling(1, 2, 3)},
		{falling(0, 1), plainSum(falling(0, 1), nums(2)), nums(1)},
		{falling(0, 1, 2, 3, 4, 5), plainSum(falling(0, 1, 2, 3, 4, 5), nums(720)), nums(1)},
		{falling(0, 1, 2, 3, 7), plainProduct(falling(7), plainSum(falling(0, 1, 2, 3), nums(-24))), falling(7)},
		{falling(1, 1, 1, 2, 2), falling(1, 1, 2, 2, 2), falling(1, 1, 2, 2)},
		{falling(3, 5), plainProduct(falling(5, 7, 9, 11), nums(30)), falling(5)},
		{nums(1, 0, 1), nums(-1, 0, 0, 0, 1), nums(1, 0, 1)},
		{power(12, 0), nums(0, 0, 0, -5, 0, 1), power(3, 0)},
		{nums(1), nums(5, 6), nums(1)},
		// 2^66 + 1 is 2^33 - 131071 times 2^33 + 131073: at 2^33 the one has the value of the other as a divisor, though they have none.
		{nums(1, 0, 1), nums(-131071, 1), nums(1)},
		{nums(1, 0, 1), nums(131073, 1), nums(1)},
	} {
		check.Ints(t, fmt.Sprintf("common of %v and %v", c.p, c.q), charpoly.Common(c.p, c.q), c.want)
	}
	for words := range 4 {
		for n := range 12 {
			s := &made.Source{Words: words, Seed: uint64(10*n + words)}
			shared := monic(s, n)
			// Of these two one is 1 wherever the other is 0.
			one := monic(s, 4)
			other := plainSum(plainProduct(one, polynomial(s, 3)), nums(1))
			p, q := plainProduct(shared, one), plainProduct(shared, other)
			check.Ints(t, fmt.Sprintf("common of %v and %v", p, q), charpoly.Common(p, q), shared)
		}
	}
}

// P16.8: large numbers that share many factors with the values at numbers that are tried.
func TestCommonOfLargeNumbers(t *testing.T) {
	for k := range 200 {
		large, _ := zint.Pow(num(6), k)
		for _, c := range []struct{ p, q, want []api.Int }{
			{nums(0, 1), []api.Int{large}, nums(1)},
			{nums(0, 0, 1), []api.Int{num(0), large}, nums(0, 1)},
			{[]api.Int{large, num(1)}, []api.Int{large}, nums(1)},
			{[]api.Int{num(0), large, num(1)}, []api.Int{large, large}, nums(1)},
			{[]api.Int{num(0), large, num(1)}, []api.Int{zint.Mul(large, large), large}, []api.Int{large, num(1)}},
		} {
			if k > 0 {
				check.Ints(t, fmt.Sprintf("common of %v and %v", c.p, c.q), charpoly.Common(c.p, c.q), c.want)
			}
		}
	}
}

// R1, R5: the same matrix again, or in another form, has the same answers.
func TestSameAgain(t *testing.T) {
	s := &made.Source{Words: 2, Seed: 3}
	a := s.OfRank(6, 6, 3)
	for name, call := range takers() {
		first, _ := call(a, 5)
		again, _ := call(a, 5)
		other, _ := call(made.Disguised(a), 5)
		check.Ints(t, name+" again", again, first)
		check.Ints(t, name+" of another form", other, first)
	}
}
