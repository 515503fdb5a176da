package group_test

import (
	"fmt"
	"maps"
	"math"
	"slices"
	"testing"

	"trellis/api"
	"trellis/bezout"
	"trellis/check"
	"trellis/group"
	"trellis/made"
	"trellis/mat"
	"trellis/snf"
	"trellis/zint"
)

// productCall is Tensor, or Tor.
type productCall = func(r int, f []api.Int, s int, g []api.Int) (int, []api.Int, api.Errno)

// productCalls are both by their names.
func productCalls() map[string]productCall {
	return map[string]productCall{"Tensor": group.Tensor, "Tor": group.Tor}
}

// holdProduct asks for a product, in both orders and with the factors in other forms.
func holdProduct(t *testing.T, name string, r int, f []api.Int, s int, g []api.Int, rank int, factors []api.Int) {
	t.Helper()
	call := productCalls()[name]
	for _, c := range []struct {
		r int
		f []api.Int
		s int
		g []api.Int
	}{{r, f, s, g}, {s, g, r, f}, {r, disguised(f), s, disguised(g)}} {
		named := fmt.Sprintf("%s(%d, %.200s, %d, %.200s)", name, c.r, fmt.Sprint(c.f), c.s, fmt.Sprint(c.g))
		gotRank, got, e := call(c.r, c.f, c.s, c.g)
		check.Same(t, named, e, api.OK)
		check.Same(t, named+": rank", gotRank, rank)
		check.Ints(t, named, got, factors)
	}
}

func holdTensor(t *testing.T, r int, f []api.Int, s int, g []api.Int, rank int, factors []api.Int) {
	t.Helper()
	holdProduct(t, "Tensor", r, f, s, g, rank, factors)
}

func holdTor(t *testing.T, r int, f []api.Int, s int, g []api.Int, factors []api.Int) {
	t.Helper()
	holdProduct(t, "Tor", r, f, s, g, 0, factors)
}

// holdNoProducts asks both for ErrArg with nothing beside it, in both orders.
func holdNoProducts(t *testing.T, r int, f []api.Int, s int, g []api.Int) {
	t.Helper()
	for name, call := range productCalls() {
		named := fmt.Sprintf("%s(%d, %.200s, %d, %.200s)", name, r, fmt.Sprint(f), s, fmt.Sprint(g))
		rank, got, e := call(r, f, s, g)
		check.Same(t, named+": rank", rank, 0)
		holdRefusal(t, named, got, e, api.ErrArg)
		rank, got, e = call(s, g, r, f)
		check.Same(t, named+", in the other order: rank", rank, 0)
		holdRefusal(t, named+", in the other order", got, e, api.ErrArg)
	}
}

// P22.9 and P22.10, worked out by hand.
func TestProducts(t *testing.T) {
	for _, c := range []struct {
		r      int
		f      string
		s      int
		g      string
		rank   int
		tensor string
		tor    string
	}{
		{0, "", 0, "", 0, "", ""}, {0, "", 5, "6", 0, "", ""}, {1, "", 0, "", 0, "", ""}, {1, "", 1, "", 1, "", ""}, {2, "", 3, "", 6, "", ""}, {64, "", 64, "", 4096, "", ""},
		// One number of no modulus leaves the other group as it is, several make several of it.
		{1, "", 0, "2 4", 0, "2 4", ""}, {1, "", 3, "4 6", 3, "2 12", ""}, {2, "", 0, "4 6", 0, "2 2 12 12", ""}, {3, "", 1, "5", 3, "5 5 5", ""}, {2, "", 0, "1 1", 0, "", ""},
		// Factors 1 add nothing.
		{0, "1", 0, "1", 0, "", ""}, {1, "1 1", 2, "1", 2, "", ""}, {0, "1 6 1", 0, "4 1", 0, "2", "2"}, {0, "1", 0, "100", 0, "", ""},
		// Factors against factors.
		{0, "3", 0, "4", 0, "", ""}, {0, "6", 0, "4", 0, "2", "2"}, {0, "6", 0, "6", 0, "6", "6"}, {0, "2 2", 0, "2", 0, "2 2", "2 2"}, {0, "2 4", 0, "2 4", 0, "2 2 2 4", "2 2 2 4"}, {0, "2 3", 0, "6", 0, "6", "6"}, {0, "4 6", 0, "12", 0, "2 12", "2 12"}, {0, "12 18", 0, "8 27", 0, "6 36", "6 36"}, {0, "6 10 15", 0, "30", 0, "30 30", "30 30"},
		// Both.
		{1, "4", 1, "6", 1, "2 2 12", "2"}, {1, "2", 1, "2", 1, "2 2 2", "2"}, {2, "2", 1, "3", 2, "3 6", ""}, {1, "2 3", 0, "5 6", 0, "6 30", "6"}, {2, "3", 2, "3", 4, "3 3 3 3 3", "3"}, {1, "6", 2, "10 1", 2, "2 2 6 30", "2"},
	} {
		holdTensor(t, c.r, row(c.f), c.s, row(c.g), c.rank, row(c.tensor))
		holdTor(t, c.r, row(c.f), c.s, row(c.g), row(c.tor))
	}
}

// P22.9 and P22.10: what lies beyond each bound alone is refused, on both sides, and what lies at it is not.
func TestProductsRefused(t *testing.T) {
	ones := check.Filled(1, 200, nums(1)).At
	for _, r := range []int{-1, -64, math.MinInt, 65, 66, 128, 1 << 32, math.MaxInt} {
		holdNoProducts(t, r, nil, 0, nil)
		holdNoProducts(t, r, nums(2), 64, nums(4))
		holdNoProducts(t, r, nil, -r, nil)
		holdNoProducts(t, r, nums(0), r, ones)
	}
	for _, count := range []int{65, 66, 128, 200} {
		holdNoProducts(t, 0, ones[:count], 0, nil)
		holdNoProducts(t, 1, ones[:count], 64, nums(4))
		holdNoProducts(t, 1, check.Filled(1, count, nums(6, 4)).At, 0, ones[:64])
	}
	for _, low := range append(check.Zeros(), num(-1), num(-6), minus(0, 1), minus(5, 0)) {
		holdNoProducts(t, 0, []api.Int{low}, 0, nil)
		holdNoProducts(t, 1, []api.Int{num(2), low}, 3, nums(1))
		holdNoProducts(t, 1, []api.Int{low, num(4)}, 3, []api.Int{num(4), low})
		holdNoProducts(t, 0, append(slices.Clone(ones[:63]), low), 0, ones[:64])
	}
	holdTensor(t, 64, ones[:64], 64, ones[:64], 4096, nil)
	holdTor(t, 64, ones[:64], 64, ones[:64], nil)
	holdTensor(t, 0, ones[:64], 64, nums(3), 0, nil)
	holdTensor(t, 64, nil, 0, nums(3), 0, check.Filled(1, 64, nums(3)).At)
}

// byWords are the factors of both products ahead of being put into invariant form, by the words of the document.
func byWords(r int, f []api.Int, s int, g []api.Int) (tensor, tor []api.Int) {
	for _, x := range f {
		for _, y := range g {
			tor = append(tor, bezout.Gcd(x, y))
		}
	}
	for range r {
		tensor = append(tensor, g...)
	}
	for range s {
		tensor = append(tensor, f...)
	}
	return append(tensor, tor...), tor
}

// holdProducts asks both for what the words of the document say, by layer 20's chains.
func holdProducts(t *testing.T, r int, f []api.Int, s int, g []api.Int) {
	t.Helper()
	tensor, tor := byWords(r, f, s, g)
	holdTensor(t, r, f, s, g, r*s, above(snf.Chain(tensor)))
	holdTor(t, r, f, s, g, above(snf.Chain(tor)))
}

// P22.9 and P22.10 at all short lists of little numbers.
func TestAllSmallProducts(t *testing.T) {
	entries := []int{1, 2, 4, 6, 9}
	var lists [][]api.Int
	for count := range 3 {
		for small := range made.AllSmall(1, count, entries) {
			lists = append(lists, small.Matrix(count).At)
		}
	}
	for i, f := range lists {
		for k, g := range lists {
			holdProducts(t, i%3, f, k%4, g)
		}
	}
}

// P22.9: a product of two groups is that of the rows modulo both lattices: of one with the unit matrix of the other, and the other way round.
func TestTensorOfMatrices(t *testing.T) {
	for seed := range 60 {
		source := made.Source{Seed: uint64(seed)}
		r, s := int(source.Word()%3), int(source.Word()%3)
		f, g := littleFactors(&source, seed%4), littleFactors(&source, seed%3)
		a := diagOf(len(f), len(f)+r, f)
		b := diagOf(len(g), len(g)+s, g)
		ofA, _ := mat.Kron(a, unitOf(b.Cols))
		ofB, _ := mat.Kron(unitOf(a.Cols), b)
		both, e := mat.Stack(ofA, ofB)
		check.Same(t, "is the matrix small enough", e, api.OK)
		rank, factors, _ := group.Of(both)
		holdTensor(t, r, f, s, g, rank, factors)
		holdProducts(t, r, f, s, g)
	}
}

// littleFactors are so many little factors, often with divisors in common.
func littleFactors(s *made.Source, count int) []api.Int {
	var list []api.Int
	for range count {
		list = append(list, num([]int{1, 2, 4, 8, 3, 9, 6, 12, 5, 30, 36, 7}[s.Word()%12]))
	}
	return list
}

// exponentsOf are the exponents of each prime in the factors, rising.
func exponentsOf(t *testing.T, factors []api.Int) map[uint64][]int {
	t.Helper()
	all, e := group.Primary(factors)
	check.Same(t, fmt.Sprint("Primary of ", factors), e, api.OK)
	byPrime := map[uint64][]int{}
	for _, p := range all {
		byPrime[p.Prime] = append(byPrime[p.Prime], p.Exp)
	}
	return byPrime
}

// P22.8 to P22.10: prime by prime, the exponents of a product are the lesser ones of each two, and each as often as the other rank says.
func TestProductsByPrimes(t *testing.T) {
	for seed := range 100 {
		source := made.Source{Seed: uint64(seed)}
		r, s := seed%4, seed/4%3
		f, g := littleFactors(&source, seed%7), littleFactors(&source, seed%6)
		ofF, ofG := exponentsOf(t, f), exponentsOf(t, g)
		tensor, tor := map[uint64][]int{}, map[uint64][]int{}
		for _, prime := range []uint64{2, 3, 5, 7} {
			var both []int
			for _, x := range ofF[prime] {
				for _, y := range ofG[prime] {
					both = append(both, min(x, y))
				}
			}
			putExponents(tor, prime, both)
			putExponents(tensor, prime, slices.Concat(both, slices.Repeat(ofG[prime], r), slices.Repeat(ofF[prime], s)))
		}
		_, factors, _ := group.Tensor(r, f, s, g)
		check.Same(t, fmt.Sprint("Tensor by primes ", f, g), maps.EqualFunc(exponentsOf(t, factors), tensor, slices.Equal), true)
		_, factors, _ = group.Tor(r, f, s, g)
		check.Same(t, fmt.Sprint("Tor by primes ", f, g), maps.EqualFunc(exponentsOf(t, factors), tor, slices.Equal), true)
	}
}

// putExponents puts a prime's exponents to the others, rising, if there are any.
func putExponents(all map[uint64][]int, prime uint64, list []int) {
	if len(list) > 0 {
		all[prime] = slices.Sorted(slices.Values(list))
	}
}

// P22.9 and P22.10 at the greatest ranks and the longest lists, with numbers of many words; what is answered is longer than MaxDim.
func TestLargeProducts(t *testing.T) {
	for words := range 4 {
		source := made.Source{Words: words, Seed: uint64(words)}
		f, g := source.Chain(64), source.Chain(64)
		slices.Reverse(g)
		holdProducts(t, 64, f, 64, g)
		holdProducts(t, 64, f, 0, nil)
	}
	same := check.Filled(1, 64, []api.Int{plus(0, 6)}).At
	holdTensor(t, 64, same, 64, same, 4096, check.Filled(1, 3*4096, []api.Int{plus(0, 6)}).At)
	holdTor(t, 64, same, 64, same, check.Filled(1, 4096, []api.Int{plus(0, 6)}).At)
	for _, n := range check.Integers() {
		for _, m := range check.Integers() {
			if zint.Sign(n) > 0 && zint.Sign(m) > 0 {
				holdProducts(t, 1, []api.Int{n}, 0, []api.Int{m, num(6)})
			}
		}
	}
}
