package charpoly_test

import (
	"fmt"
	"slices"
	"testing"

	"trellis/api"
	"trellis/bareiss"
	"trellis/charpoly"
	"trellis/check"
	"trellis/made"
	"trellis/manydet"
	"trellis/mat"
	"trellis/minors"
	"trellis/modp"
	"trellis/zint"
)

// polynomial is one of so many coefficients, the highest of them not 0.
func polynomial(s *made.Source, length int) []api.Int {
	if length == 0 {
		return nil
	}
	return append(s.Whole(1, length-1).At, s.NotZero())
}

// monic is a monic polynomial of this degree.
func monic(s *made.Source, degree int) []api.Int {
	return append(s.Whole(1, degree).At, num(1))
}

// coefficient is that of x^i, which need not stand in the list.
func coefficient(p []api.Int, i int) api.Int {
	if i < 0 || i >= len(p) {
		return num(0)
	}
	return p[i]
}

// list is the polynomial of degree below n with the coefficients that at says.
func list(n int, at func(i int) api.Int) []api.Int {
	var all []api.Int
	for i := range n {
		all = append(all, zint.Least(at(i)))
	}
	for len(all) > 0 && zint.Sign(all[len(all)-1]) == 0 {
		all = all[:len(all)-1]
	}
	return all
}

// plainSum and plainProduct are sum and product coefficient by coefficient.
func plainSum(p, q []api.Int) []api.Int {
	return list(max(len(p), len(q)), func(i int) api.Int { return zint.Add(coefficient(p, i), coefficient(q, i)) })
}

func plainProduct(p, q []api.Int) []api.Int {
	return list(len(p)+len(q), func(i int) api.Int {
		var sum api.Int
		for j := range i + 1 {
			sum = zint.MulAdd(coefficient(p, j), coefficient(q, i-j), sum)
		}
		return sum
	})
}

// plainValue is the sum of the coefficients times the powers of x.
func plainValue(p []api.Int, x api.Int) api.Int {
	sum, power := num(0), num(1)
	for _, c := range p {
		sum = zint.MulAdd(c, power, sum)
		power = zint.Mul(power, x)
	}
	return sum
}

// lengths are those of polynomials.
func lengths() []int {
	return []int{0, 1, 2, 3, 4, 5, 8, 13, 16, 17, 40}
}

// P16.1 and P16.3: polynomials of many lengths, with numbers of many sizes, in each form.
func TestSumsAndProducts(t *testing.T) {
	for _, n := range lengths() {
		for _, m := range lengths() {
			for words := range 4 {
				s := &made.Source{Words: words, Seed: uint64(1000*n + 10*m)}
				p, q := polynomial(s, n), polynomial(s, m)
				call := fmt.Sprintf("%v and %v: ", p, q)
				check.Ints(t, call+"Trim", charpoly.Trim(disguised(p)), p)
				check.Ints(t, call+"Add", charpoly.Add(p, q), plainSum(p, q))
				check.Ints(t, call+"Add", charpoly.Add(disguised(p), disguised(q)), plainSum(p, q))
				check.Ints(t, call+"Mul", charpoly.Mul(p, q), plainProduct(p, q))
				check.Ints(t, call+"Mul", charpoly.Mul(disguised(p), disguised(q)), plainProduct(p, q))
				x := s.Next()
				check.Int(t, call+"Value", charpoly.Value(p, x), plainValue(p, x))
				check.Int(t, call+"Value", charpoly.Value(disguised(p), made.Disguised(check.Filled(1, 3, []api.Int{x})).At[2]), plainValue(p, x))
			}
		}
	}
}

// P16.1: sums in which the high coefficients, or all, become 0.
func TestSumsThatShrink(t *testing.T) {
	for _, n := range lengths() {
		for left := range n + 1 {
			s := &made.Source{Words: n % 4, Seed: uint64(100*n + left)}
			p := polynomial(s, n)
			q := slices.Concat(polynomial(s, left), charpoly.Mul(p, nums(-1))[left:])
			check.Ints(t, fmt.Sprint(p, " + ", q), charpoly.Add(p, q), plainSum(p, q))
			check.Ints(t, fmt.Sprint(q, " + ", p), charpoly.Add(disguised(q), p), plainSum(p, q))
		}
	}
}

// P16.1 to P16.3: long lists.
func TestLongLists(t *testing.T) {
	s := &made.Source{Words: 1, Seed: 1}
	p, q := polynomial(s, 5001), polynomial(s, 30)
	whole := charpoly.Mul(p, q)
	for _, x := range []int{0, 1, -1, 2, -3} {
		at := zint.Mul(plainValue(p, num(x)), plainValue(q, num(x)))
		check.Int(t, fmt.Sprint("the product at ", x), charpoly.Value(whole, num(x)), at)
	}
	check.Int(t, "x^100000 at -1", charpoly.Value(power(100000, 0), num(-1)), num(1))
	check.Int(t, "x^100001 at 2^64", charpoly.Value(power(100001, 7), plus(0, 1)), plus(append(make([]uint64, 100001), 1)...))
	divisor := monic(s, 30)
	holdDivision(t, charpoly.Add(charpoly.Mul(p, divisor), q), divisor, p, q)
}

// P16.2: what was made of a quotient and a rest must be found again, in each form.
func TestDivisions(t *testing.T) {
	for _, n := range lengths() {
		for _, degree := range lengths() {
			for words := range 4 {
				s := &made.Source{Words: words, Seed: uint64(1000*n + 10*degree)}
				quot, q := polynomial(s, n), monic(s, degree)
				for _, below := range []int{0, degree / 2, degree} {
					rest := polynomial(s, below)
					p := plainSum(plainProduct(q, quot), rest)
					holdDivision(t, p, q, quot, rest)
					holdDivision(t, disguised(p), disguised(q), quot, rest)
				}
			}
		}
	}
}

// P16.4: polynomials of many degrees at matrices of many sizes, by the sum of the powers.
func TestAtByPowers(t *testing.T) {
	for _, n := range []int{0, 1, 2, 3, 5} {
		for _, length := range lengths() {
			for words := range 3 {
				s := &made.Source{Words: words, Seed: uint64(100*n + length)}
				p, a := polynomial(s, length), s.Whole(n, n)
				want := plainAt(p, a)
				holdAt(t, p, a, want)
				holdAt(t, disguised(p), made.Disguised(a), want)
			}
		}
	}
	for length := 1; length <= 257; length += 16 {
		s := &made.Source{Seed: uint64(length)}
		p, a := polynomial(s, length), s.Whole(3, 3)
		holdAt(t, p, a, plainAt(p, a))
	}
}

// P16.4: sums and products of polynomials are those of the matrices.
func TestAtOfSumsAndProducts(t *testing.T) {
	for _, n := range []int{1, 4, 9, 20} {
		s := &made.Source{Words: n % 3, Seed: uint64(n)}
		p, q, a := polynomial(s, 11), polynomial(s, 7), s.Whole(n, n)
		one, e := charpoly.At(p, a)
		check.Same(t, of("At", a), e, api.OK)
		other, e := charpoly.At(q, a)
		check.Same(t, of("At", a), e, api.OK)
		sum, _ := mat.Add(one, other)
		holdAt(t, plainSum(p, q), a, sum)
		holdAt(t, plainProduct(p, q), a, product(one, other))
		holdAt(t, plainProduct(q, p), a, product(other, one))
	}
}

// charAt is the determinant of x times the unit matrix less a.
func charAt(a api.Mat, x api.Int) api.Int {
	less, _ := mat.Sub(scaled(a.Rows, x), a)
	d, _ := bareiss.Det(less)
	return d
}

// P16.5: monic, of the degree that is asked for, and at more numbers than the degree the determinant: only one polynomial is so.
func TestCharByDeterminants(t *testing.T) {
	for _, n := range []int{1, 2, 3, 4, 5, 6, 9, 14} {
		for words := range 4 {
			for rank := n; rank >= 0; rank -= 1 + n/3 {
				s := &made.Source{Words: words, Seed: uint64(100*n + rank)}
				a := s.OfRank(n, n, rank)
				p, e := charpoly.Char(a)
				check.Same(t, of("Char", a), e, api.OK)
				check.Same(t, of("length of Char", a), len(p), n+1)
				check.Int(t, of("highest coefficient of Char", a), p[n], num(1))
				for x := -n / 2; x <= n-n/2; x++ {
					check.Int(t, of("Char at a number", a, x), plainValue(p, num(x)), charAt(a, num(x)))
				}
				holdChar(t, made.Disguised(a), p)
				holdChar(t, made.Turned(a), p)
			}
		}
	}
}

// P5: the constant coefficient is the determinant, with its sign turned where the number of rows is odd; P16.5, P16.7: the one below the highest is minus the trace.
func TestOneDeterminant(t *testing.T) {
	for _, n := range []int{0, 1, 2, 3, 7, 12, 25} {
		for words := range 3 {
			s := &made.Source{Words: words, Seed: uint64(n)}
			a := s.Whole(n, n)
			p, _ := charpoly.Char(a)
			constant := p[0]
			if n%2 == 1 {
				constant = zint.Neg(constant)
			}
			d, _ := bareiss.Det(a)
			check.Int(t, of("the constant coefficient and bareiss.Det", a), constant, d)
			d, _ = manydet.Det(a, 4)
			check.Int(t, of("the constant coefficient and manydet.Det", a), constant, d)
			d, _ = minors.Minor(a, made.First(n), made.First(n))
			check.Int(t, of("the constant coefficient and minors.Minor", a), constant, d)
			for _, prime := range []uint64{2, 3, 2147483647} {
				rest, _ := zint.Mod(constant, plus(prime))
				want, _ := modp.Det(a, prime)
				check.Int(t, of("the constant coefficient modulo a prime", a), rest, zint.Of(int64(want)))
			}
			if n > 0 {
				trace, _ := mat.Trace(a)
				check.Int(t, of("the coefficient below the highest", a), p[n-1], zint.Neg(trace))
				holdTraces(t, a, 1, []api.Int{trace})
			}
		}
	}
}

// P9, P16.8: the polynomials of a matrix are zero at it, and one divides the other.
func TestOwnPolynomials(t *testing.T) {
	for _, n := range []int{0, 1, 2, 5, 10, 20, 33} {
		// Of large ones those with small numbers will do.
		for words := range 1 + 40/(n+20) {
			for _, rank := range []int{n, n / 2, min(n, 1)} {
				s := &made.Source{Words: words, Seed: uint64(10*n + rank)}
				a := s.OfRank(n, n, rank)
				p, _ := charpoly.Char(a)
				holdAt(t, p, a, zero(n))
				least, e := charpoly.LeastPoly(made.Disguised(a))
				check.Same(t, of("LeastPoly", a), e, api.OK)
				holdAt(t, least, a, zero(n))
				_, rest, e := charpoly.DivMonic(p, least)
				check.Same(t, of("Char by LeastPoly", a), e, api.OK)
				check.Ints(t, of("rest of Char by LeastPoly", a), rest, nil)
				holdLeast(t, made.Turned(a), least)
			}
		}
	}
}

// P16.8: no fewer powers are dependent, at matrices of each rank.
func TestLeastOfEachRank(t *testing.T) {
	for n := range 9 {
		for rank := range n + 1 {
			for words := range 3 {
				s := &made.Source{Words: words, Seed: uint64(100*n + 10*rank)}
				holdLeastByRank(t, s.OfRank(n, n, rank))
			}
		}
	}
}

// P16.8: matrices with many zeros, of which powers vanish or come again.
func TestLeastWithGaps(t *testing.T) {
	for seed := range 300 {
		s := &made.Source{Seed: uint64(1000 * seed)}
		n := 2 + int(s.Word()%6)
		a := s.Whole(n, n)
		for i := range a.At {
			if s.Word()%4 > 0 {
				a.At[i] = num(0)
			}
		}
		holdLeastByRank(t, a)
	}
}

// P16.5: both products of two matrices, which need not be square, have the same polynomial but for a power of x.
func TestCharOfProducts(t *testing.T) {
	for _, c := range [][2]int{{1, 1}, {3, 3}, {2, 5}, {7, 4}, {1, 12}, {16, 9}} {
		for words := range 3 {
			s := &made.Source{Words: words, Seed: uint64(c[0] + words)}
			a, b := s.Whole(c[0], c[1]), s.Whole(c[1], c[0])
			p, _ := charpoly.Char(product(a, b))
			q, _ := charpoly.Char(product(b, a))
			check.Ints(t, of("Char of both products", a), plainProduct(p, power(c[1], 0)), plainProduct(q, power(c[0], 0)))
		}
	}
}

// P16.7: the traces of the powers, each made.
func TestTracesByPowers(t *testing.T) {
	for _, n := range []int{1, 2, 3, 4, 7, 12} {
		for words := range 3 {
			s := &made.Source{Words: words, Seed: uint64(n)}
			a := s.Whole(n, n)
			var want []api.Int
			one := unit(n)
			for range 3*n + 5 {
				one = product(one, a)
				trace, _ := mat.Trace(one)
				want = append(want, trace)
			}
			for _, k := range []int{0, 1, n - 1, n, n + 1, 2 * n, len(want)} {
				holdTraces(t, a, k, want[:k])
				holdTraces(t, made.Disguised(a), k, want[:k])
			}
		}
	}
	a := mx("0 1; 1 1")
	got, e := charpoly.Traces(a, 256)
	check.Same(t, "Traces", e, api.OK)
	for i, one := range powersOf(a, 257)[1:] {
		trace, _ := mat.Trace(one)
		check.Int(t, fmt.Sprint("the trace of the power ", i+1), got[i], trace)
	}
}
