package divnat_test

import (
	"fmt"
	"slices"
	"testing"

	"trellis/api"
	"trellis/check"
	"trellis/divnat"
	"trellis/mulnat"
	"trellis/nat"
)

// What divides and what is a root is held here against products, which layer 2's tests hold against reckoning digit by digit.

var one = list{1}

func minusOne(a list) list {
	less, _ := nat.Sub(a, one)
	return less
}

// power is a to the power n, for n of any size.
func power(a list, n int) list {
	return mulnat.Product(slices.Repeat([]list{a}, n)...)
}

// holdDivision asks for the only quotient and rest that there are, of a by b above 0.
func holdDivision(t *testing.T, a, b list) {
	t.Helper()
	q, r, e := divnat.DivMod(a, b)
	call := fmt.Sprintf("DivMod(%#x, %#x) = %#x, %#x", a, b, q, r)
	check.Same(t, call, e, api.OK)
	check.Words(t, call+": q b + r", mulnat.MulAdd(q, b, r), nat.Least(a))
	check.Same(t, call+": r against b", nat.Cmp(r, b), -1)
	check.Words(t, call+": least form of q", q, nat.Least(q))
	check.Words(t, call+": least form of r", r, nat.Least(r))
	exact, e := divnat.Exact(a, b)
	if len(r) == 0 {
		check.Words(t, "Exact beside "+call, exact, q)
		check.Same(t, "Exact beside "+call, e, api.OK)
	} else {
		check.Words(t, "Exact beside "+call, exact, nil)
		check.Same(t, "Exact beside "+call, e, api.ErrExact)
	}
}

// P3.1 and P3.2.
func TestDivisionOfSamples(t *testing.T) {
	for _, a := range check.Samples() {
		for _, b := range check.Samples() {
			if nat.BitLen(b) > 0 {
				holdDivision(t, a, b)
			}
			if len(b) == 1 && b[0] != 0 {
				q, r, e := divnat.Word(a, b[0])
				call := fmt.Sprintf("Word(%#x, %#x) = %#x, %#x", a, b[0], q, r)
				check.Same(t, call, e, api.OK)
				check.Words(t, call, nat.Add(mulnat.Word(q, b[0]), list{r}), nat.Least(a))
				check.Words(t, call+": least form", q, nat.Least(q))
				check.Same(t, call+": rest below w", r < b[0], true)
			}
		}
	}
}

// P3.1 where a product is made first: the greatest and the least rest, and digits that are hard to guess.
func TestDivisionOfProducts(t *testing.T) {
	for _, b := range check.Samples() {
		if nat.BitLen(b) == 0 {
			continue
		}
		for _, q := range check.Samples() {
			for _, r := range []list{nil, minusOne(b)} {
				a := mulnat.MulAdd(q, b, r)
				call := fmt.Sprintf("DivMod(%#x, %#x)", a, b)
				quotient, rest, e := divnat.DivMod(a, b)
				check.Words(t, call, quotient, nat.Least(q))
				check.Words(t, call, rest, r)
				check.Same(t, call, e, api.OK)
			}
		}
	}
}

// P3.1 for long numbers.
func TestDivisionOfLongNumbers(t *testing.T) {
	for m := range 40 {
		for n := range 20 {
			a, b := check.Mixed(m, uint64(m)), append(check.Mixed(n, uint64(100+n)), uint64(1)<<(3*n), 0)
			holdDivision(t, a, b)
			holdDivision(t, minusOne(power2(m)), b)
			holdDivision(t, power2(m), minusOne(power2(n+1)))
		}
	}
	for i, n := range []int{1, 2, 63, 64, 65, 100, 299, 300} {
		holdDivision(t, check.Mixed(300, uint64(i)), append(check.Mixed(n, uint64(50+i)), 5))
		holdDivision(t, check.Repeat(top, 300), check.Repeat(top, n))
	}
	holdDivision(t, check.Mixed(20000, 1), check.Mixed(600, 2))
}

// plainGcd divides step by step, and leaves out none.
func plainGcd(a, b list) list {
	a, b = nat.Least(a), nat.Least(b)
	for len(b) > 0 {
		_, rest, _ := divnat.DivMod(a, b)
		a, b = b, rest
	}
	return a
}

// P3.3.
func TestGcdOfSamples(t *testing.T) {
	for _, a := range check.Samples() {
		for _, b := range check.Samples() {
			check.Words(t, fmt.Sprintf("Gcd(%#x, %#x)", a, b), divnat.Gcd(a, b), plainGcd(a, b))
		}
	}
}

// P3.3 for long numbers, with a factor that both have.
func TestGcdOfLongNumbers(t *testing.T) {
	for i := range 400 {
		seed := uint64(3 * i)
		factor := append(check.Mixed(i%7, seed), 1+seed)
		a := mulnat.Mul(check.Mixed(1+i%23, seed+1), factor)
		b := mulnat.Mul(check.Mixed(1+i%17, seed+2), factor)
		got := divnat.Gcd(a, b)
		check.Words(t, fmt.Sprintf("Gcd(%#x, %#x)", a, b), got, plainGcd(a, b))
		check.Words(t, fmt.Sprintf("Gcd(%#x, %#x)", b, a), divnat.Gcd(b, a), got)
		_, e := divnat.Exact(got, factor)
		check.Same(t, fmt.Sprintf("Exact(%#x, %#x): a common divisor divides it", got, factor), e, api.OK)
	}
}

// P3.3: the greatest common divisor of 2^m - 1 and 2^n - 1 is 2^g - 1, g that of m and n.
func TestGcdOfAllOnes(t *testing.T) {
	ones := func(n uint64) list {
		power, _ := nat.Shl(one, int(n))
		return minusOne(power)
	}
	for m := uint64(1); m < 1000; m += 37 {
		for n := uint64(1); n < 1000; n += 13 {
			g := plainGcd(list{m}, list{n})[0]
			check.Words(t, fmt.Sprintf("Gcd(2^%d - 1, 2^%d - 1)", m, n), divnat.Gcd(ones(m), ones(n)), ones(g))
		}
	}
}

// P3.3 where all quotients are known: pairs are made by going up from a factor and 0, quotient by quotient.
func TestGcdOfKnownQuotients(t *testing.T) {
	sets := [][]list{
		{{1}},
		{{2}},
		{{1}, {top}},
		{{1}, {1}, {1}, {1 << 29}, {3}},
		{{1 << 30}, {1<<30 - 1}, {1}},
		{{1 << 59}, {1}, {1 << 60}, {2}},
		{{1}, {0, 1}, {1}, {1}, {2}, {5, 6, 7}},
		{{1 << 31}, {1 << 31}, {top, top}},
	}
	for _, set := range sets {
		for _, factor := range []list{{1}, {3}, {top, top}, check.Mixed(6, 11)} {
			a, b := factor, list(nil)
			for i := range 120 {
				a, b = mulnat.MulAdd(set[i%len(set)], a, b), a
				check.Words(t, fmt.Sprintf("Gcd(%#x, %#x)", a, b), divnat.Gcd(a, b), factor)
			}
		}
	}
}

// holdRoot asks for the only root that there is.
func holdRoot(t *testing.T, a list, k int) {
	t.Helper()
	root, e := divnat.Root(a, k)
	call := fmt.Sprintf("Root(%#x, %d) = %#x", a, k, root)
	check.Same(t, call, e, api.OK)
	check.Words(t, call+": least form", root, nat.Least(root))
	check.Same(t, call+": its power is above a", nat.Cmp(power(root, k), a) > 0, false)
	check.Same(t, call+": the next one's power is above a", nat.Cmp(power(nat.Add(root, one), k), a) > 0, true)
}

// holdSqrt asks for the only square root and rest that there are.
func holdSqrt(t *testing.T, a list) {
	t.Helper()
	root, left := divnat.Sqrt(a)
	call := fmt.Sprintf("Sqrt(%#x) = %#x, %#x", a, root, left)
	check.Words(t, call+": square and rest", mulnat.MulAdd(root, root, left), nat.Least(a))
	check.Words(t, call+": least form of the root", root, nat.Least(root))
	check.Words(t, call+": least form of the rest", left, nat.Least(left))
	// The next square is twice the root and 1 more.
	check.Same(t, call+": the rest goes beyond the next square", nat.Cmp(left, mulnat.Word(root, 2)) > 0, false)
}

// P3.4, small numbers all.
func TestRootsOfSmallNumbers(t *testing.T) {
	for k := 1; k < 14; k++ {
		root := uint64(0)
		for a := range uint64(2200) {
			if nat.Cmp(power(list{root + 1}, k), list{a}) <= 0 {
				root++
			}
			got, e := divnat.Root(list{a}, k)
			call := fmt.Sprintf("Root(%d, %d)", a, k)
			check.Words(t, call, got, nat.Least(list{root}))
			check.Same(t, call, e, api.OK)
		}
	}
	for a := range uint64(2200) {
		holdSqrt(t, list{a})
	}
}

// P3.4 at samples.
func TestRootsOfSamples(t *testing.T) {
	for _, a := range check.Samples() {
		holdSqrt(t, a)
		for _, k := range []int{1, 2, 3, 4, 5, 6, 7, 31, 32, 33, 62, 63, 64, 65, 127, 128, 129, 191, 192, 193} {
			holdRoot(t, a, k)
		}
	}
}

// P3.4 at powers, just below and just above them.
func TestRootsOfPowers(t *testing.T) {
	for _, base := range []list{{2}, {3}, {10}, {1<<32 - 1}, {top}, {0, 1}, {1, 1}, {top, top}, {0, high}, check.Mixed(5, 3)} {
		for _, k := range []int{2, 3, 5, 64, 65, 255, 256, 257, 258, 300, 513} {
			a := power(base, k)
			call := fmt.Sprintf("Root of the power %d of %#x", k, base)
			root, _ := divnat.Root(a, k)
			check.Words(t, call, root, base)
			root, _ = divnat.Root(nat.Add(a, one), k)
			check.Words(t, call+", plus 1", root, base)
			root, _ = divnat.Root(minusOne(a), k)
			check.Words(t, call+", minus 1", root, minusOne(base))
			root, _ = divnat.Root(minusOne(power(nat.Add(base, one), k)), k)
			check.Words(t, call+", below the next", root, base)
		}
	}
}

// P3.4 for long numbers.
func TestRootsOfLongNumbers(t *testing.T) {
	for n := 4; n < 40; n++ {
		holdSqrt(t, check.Mixed(n, uint64(n)))
		for _, k := range []int{2, 3, 4, 7, 11, 100} {
			holdRoot(t, check.Mixed(n, uint64(n)), k)
			holdRoot(t, check.Repeat(top, n), k)
		}
	}
	for i, k := range []int{2, 3, 5, 17, 200, 300, 1000, 5000} {
		holdRoot(t, check.Mixed(400, uint64(i)), k)
	}
}

// P3.4 and P3.1 have no limit: these numbers have more binary digits than a shift may have places.
func TestVeryLongNumbers(t *testing.T) {
	const half = api.MaxShift/64 + 10
	root, left := divnat.Sqrt(power2(2 * half))
	check.Words(t, "Sqrt of a very long power of 2", root, power2(half))
	check.Words(t, "Sqrt of a very long power of 2", left, nil)
	root, e := divnat.Root(power2(2*half), 64*half)
	check.Words(t, "Root of a very long power of 2", root, list{4})
	check.Same(t, "Root of a very long power of 2", e, api.OK)
	q, r, e := divnat.DivMod(power2(2*half), minusOne(power2(2*half-1)))
	check.Words(t, "DivMod of very long numbers", q, list{0, 1})
	check.Words(t, "DivMod of very long numbers", r, list{0, 1})
	check.Same(t, "DivMod of very long numbers", e, api.OK)
	check.Words(t, "Gcd of very long numbers", divnat.Gcd(power2(2*half), power2(2*half-1)), power2(2*half-1))
	n, left, e := divnat.Strip(power2(2*half), power2(half-1))
	check.Same(t, "Strip of a very long number", n, 2)
	check.Words(t, "Strip of a very long number", left, list{0, 0, 1})
	check.Same(t, "Strip of a very long number", e, api.OK)
}

// P3.5: a power of b times a number that b does not divide, though its factors may.
func TestStripOfPowers(t *testing.T) {
	for _, c := range []struct{ b, rest list }{
		{list{2}, list{1}},
		{list{2}, list{3}},
		{list{3}, list{2}},
		{list{4}, list{2}},
		{list{4}, list{6}},
		{list{8}, list{4}},
		{list{6}, list{1}},
		{list{6}, list{2 * 2 * 2}},
		{list{12}, list{6}},
		{list{12}, list{8}},
		{list{12}, list{9 * 2}},
		{list{10}, list{0, 1}},
		{list{top}, list{3 * 5 * 17 * 257}},
		{list{0, 1}, list{high}},
		{list{0, 1}, list{1, 1}},
		{list{1, 1}, list{7, 7, 7}},
		{list{0, 6}, list{0, 0, 1}},
		{check.Mixed(4, 8), list{5}},
	} {
		for n := range 70 {
			holdStrip(t, c.b, c.rest, n)
		}
		for _, n := range []int{127, 128, 129, 255, 256, 257, 300} {
			holdStrip(t, c.b, c.rest, n)
		}
	}
}

func holdStrip(t *testing.T, b, rest list, n int) {
	t.Helper()
	count, left, e := divnat.Strip(mulnat.Mul(power(b, n), rest), b)
	call := fmt.Sprintf("Strip(%#x to the power %d, times %#x)", b, n, rest)
	check.Same(t, call, count, n)
	check.Words(t, call, left, rest)
	check.Same(t, call, e, api.OK)
}

// P3.5 at samples, against taking out one factor after the other.
func TestStripOfSamples(t *testing.T) {
	for _, a := range check.Samples() {
		if nat.BitLen(a) == 0 {
			continue
		}
		for _, b := range []list{{2}, {3}, {4}, {5}, {6}, {8}, {15}, {16, 0}, {1 << 32}, {high}, {top}, {0, 1}, {1, 1}, {0, 2}} {
			want, rest := 0, nat.Least(a)
			for {
				q, r, _ := divnat.DivMod(rest, b)
				if len(r) > 0 {
					break
				}
				want, rest = want+1, q
			}
			n, left, e := divnat.Strip(a, b)
			call := fmt.Sprintf("Strip(%#x, %#x)", a, b)
			check.Same(t, call, n, want)
			check.Words(t, call, left, rest)
			check.Same(t, call, e, api.OK)
		}
	}
}
