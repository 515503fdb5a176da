package snf_test

import (
	"slices"
	"testing"

	"trellis/api"
	"trellis/bezout"
	"trellis/check"
	"trellis/made"
	"trellis/snf"
	"trellis/zint"
)

// P20.6, worked out by hand.
func TestChain(t *testing.T) {
	for list, want := range map[string]string{
		"": "", "0": "0", "1": "1", "-1": "1", "-6": "6", "0 0": "0 0", "1 1": "1 1", "0 5": "5 0", "5 0": "5 0", "-5 -5": "5 5", "6 3": "3 6", "3 6": "3 6", "2 3": "1 6", "-4 6": "2 12", "1 0 1": "1 1 0",
		"2 3 5": "1 1 30", "6 10 15": "1 30 30", "4 6 9": "1 6 36", "8 4 2": "2 4 8", "2 2 3 3": "1 1 6 6", "12 0 18 0": "6 36 0 0", "30 42 70 105": "1 210 210 210", "2 3 4 5 6": "1 1 2 6 60", "16 81 24 36": "1 12 72 1296", "0 -1 0 -1": "1 1 0 0",
		"7 7 7 7 7 7 7": "7 7 7 7 7 7 7", "1 2 4 8 16 32": "1 2 4 8 16 32", "32 16 8 4 2 1": "1 2 4 8 16 32", "10 0 4 0 6 0 15": "1 2 30 60 0 0 0",
	} {
		holdChain(t, row(list), row(want))
		holdChain(t, made.Disguised(api.Mat{Rows: 1, Cols: len(row(list)), At: row(list)}).At, row(want))
	}
}

// P20.6: all short lists of little numbers. The product of the first k is the greatest common divisor of all products of k of the numbers: the minors of their matrix.
func TestChainOfAllSmall(t *testing.T) {
	for n, entries := range map[int][]int{1: {-2, 0, 3}, 2: {-12, -4, -1, 0, 1, 2, 3, 6, 10, 18}, 3: {-6, 0, 1, 2, 4, 10, 15}, 4: {0, 4, 6, 9, -10}, 5: {0, 6, 10, 15}} {
		for small := range made.AllSmall(1, n, entries) {
			list := small.Matrix(n).At
			chain := snf.Chain(list)
			square := diagOf(n, n, list)
			check.Same(t, of("is Chain in the form", square), isSmith(diagOf(n, n, chain)), true)
			for k, got := range products(chain) {
				check.Int(t, of("the product of the first of Chain", square), got, divisorOfProducts(list, k))
			}
			holdForm(t, square, diagOf(n, n, chain))
		}
	}
}

// divisorOfProducts is the greatest common divisor of all products of k of the numbers.
func divisorOfProducts(list []api.Int, k int) api.Int {
	var all []api.Int
	for _, places := range made.Choices(first(len(list)), k) {
		whole := num(1)
		for _, i := range places {
			whole = zint.Mul(whole, list[i])
		}
		all = append(all, whole)
	}
	return bezout.GcdAll(all)
}

// byPrimes is a list of n numbers, and its chain: for each prime the exponents, one for each number, stand in the chain in their order.
func byPrimes(s *made.Source, n, zeros int) (list, chain []api.Int) {
	list, chain = check.Filled(1, n, nums(1)).At, check.Filled(1, n, nums(1)).At
	for _, prime := range []api.Int{num(2), num(3), num(5), num(1000003), plus(13, 1)} {
		var exponents []int
		for i := range list {
			exponent := int(s.Word() % 4)
			exponents = append(exponents, exponent)
			list[i] = zint.Mul(list[i], power(prime, exponent))
		}
		slices.Sort(exponents)
		for i, exponent := range exponents {
			chain[i] = zint.Mul(chain[i], power(prime, exponent))
		}
	}
	for i := range list {
		if s.Word()%2 == 0 {
			list[i] = zint.Neg(list[i])
		}
	}
	for range zeros {
		list = slices.Insert(list, int(s.Word()%uint64(len(list)+1)), num(0))
		chain = append(chain, num(0))
	}
	return list, chain
}

func power(n api.Int, exponent int) api.Int {
	p, _ := zint.Pow(n, exponent)
	return p
}

// P20.6: lists of all lengths, far beyond MaxDim too, prime by prime.
func TestChainByPrimes(t *testing.T) {
	lengths := append(first(140), 255, 256, 257, 1000, 4097)
	for _, n := range lengths {
		s := made.Source{Seed: uint64(n)}
		for _, zeros := range []int{0, n%5 + 1} {
			list, want := byPrimes(&s, n, zeros)
			holdChain(t, list, want)
			holdChain(t, want, want)
			slices.Reverse(list)
			holdChain(t, list, want)
		}
	}
}

// P20.6: numbers of which no two have a common divisor leave ones, and their product last.
func TestChainOfPrimes(t *testing.T) {
	var list []api.Int
	product := num(1)
	for n, prime := range check.Sieve(0, 3000) {
		if prime {
			list = append(list, num(n))
			product = zint.Mul(product, num(n))
		}
	}
	want := check.Filled(1, len(list), nums(1)).At
	want[len(want)-1] = product
	check.Same(t, "are there more than MaxDim", len(list) > api.MaxDim, true)
	holdChain(t, list, want)
}

// P20.6: long lists of one number alone, and zeros in every form.
func TestChainOfOne(t *testing.T) {
	for _, n := range []int{64, 65, 100, 10000} {
		holdChain(t, check.Filled(1, n, nums(-6, 6)).At, check.Filled(1, n, nums(6)).At)
		holdChain(t, check.Filled(1, n, check.Zeros()).At, make([]api.Int, n))
		holdChain(t, make([]api.Int, n), make([]api.Int, n))
	}
}

// P20.6: each two integers, in whatever form.
func TestChainOfTwo(t *testing.T) {
	for _, n := range check.Integers() {
		for _, m := range check.Integers() {
			form, _ := snf.Form(diagOf(2, 2, []api.Int{n, m}))
			check.Same(t, "is it in the form", isSmith(form), true)
			holdChain(t, []api.Int{n, m}, diagonal(form))
			check.Int(t, "the product of Chain", zint.Mul(form.At[0], form.At[3]), zint.Abs(zint.Mul(n, m)))
		}
	}
}
