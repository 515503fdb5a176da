package made_test

import (
	"slices"
	"testing"

	"trellis/api"
	"trellis/check"
	"trellis/made"
	"trellis/mat"
	"trellis/zint"
)

func unit(n int) api.Mat {
	u, _ := mat.Unit(n)
	return u
}

func TestUnimodular(t *testing.T) {
	for n := range 8 {
		for words := range 3 {
			for seed := range 20 {
				s := made.Source{Words: words, Seed: uint64(100 * seed)}
				u, inverse, det := s.Unimodular(n)
				check.Mat(t, "it times its inverse", made.Product(u, inverse), unit(n))
				check.Mat(t, "its inverse times it", made.Product(inverse, u), unit(n))
				check.Int(t, "its determinant", det, made.Det(u))
			}
		}
	}
}

func TestDet(t *testing.T) {
	for a, want := range map[string]int{"0x0": 1, "-7": -7, "1 2; 3 4": -2, "0 1 0; 0 0 1; 1 0 0": 1, "0 0 2; 0 3 0; 5 0 0": -30} {
		check.Int(t, a, made.Det(check.Matrix(a)), check.Num(want))
	}
}

func TestChain(t *testing.T) {
	s := made.Source{Seed: 1}
	list := s.Chain(40)
	check.Same(t, "how many", len(list), 40)
	for i, n := range list {
		check.Same(t, "sign", zint.Sign(n), 1)
		_, e := zint.Exact(n, list[max(0, i-1)])
		check.Same(t, "does the one before divide it", e, api.OK)
	}
	check.Same(t, "is the last above the first", zint.Cmp(list[39], list[0]), 1)
}

func TestHermite(t *testing.T) {
	above, below := 0, 0
	for seed := range 30 {
		s := made.Source{Words: seed % 3, Seed: uint64(seed)}
		pivots := s.Places(3, 6)
		a := s.Hermite(4, 6, pivots)
		check.Same(t, "sound", mat.Check(a), api.OK)
		for i := range 4 {
			for j := range 6 {
				entry := a.At[i*6+j]
				step := slices.Index(pivots, j)
				switch {
				case i == 3 || j < pivots[i] || step >= 0 && step < i:
					check.Int(t, "what stands left of a pivot, or below", entry, check.Num(0))
				case step == i:
					check.Same(t, "sign of a pivot", zint.Sign(entry), 1)
				case step > i:
					pivot := a.At[step*6+j]
					check.Same(t, "is it reduced", zint.Sign(entry) >= 0 && zint.Cmp(entry, pivot) < 0, true)
					above += zint.Sign(entry)
				default:
					below -= min(0, zint.Sign(entry))
				}
			}
		}
	}
	check.Same(t, "are there numbers above pivots, and such below 0", above > 0 && below > 0, true)
}

func TestOfRank(t *testing.T) {
	for rank := range 4 {
		s := made.Source{Seed: uint64(rank)}
		a := s.OfRank(3, 5, rank)
		check.Same(t, "sound", mat.Check(a), api.OK)
		check.Same(t, "shape", [2]int{a.Rows, a.Cols}, [2]int{3, 5})
		for _, cols := range made.Choices(made.First(5), 3) {
			square, _ := mat.Pick(a, made.First(3), cols)
			check.Same(t, "is there a determinant above the rank", rank < 3 && zint.Sign(made.Det(square)) != 0, false)
		}
	}
}

func TestSamples(t *testing.T) {
	for _, a := range made.Samples() {
		check.Same(t, "sound", mat.Check(a), api.OK)
	}
}

func TestShapes(t *testing.T) {
	full, less, none := 0, 0, 0
	for _, shape := range made.Shapes() {
		rows, cols, rank := shape[0], shape[1], shape[2]
		check.Same(t, "is it a shape with a rank that it can have", rows > 0 && rows <= api.MaxDim && cols > 0 && cols <= api.MaxDim && rank >= 0 && rank <= min(rows, cols), true)
		a := made.SourceFor(shape).Whole(rows, cols)
		check.Same(t, "sound", mat.Check(a), api.OK)
		check.Mat(t, "the same again", made.SourceFor(shape).Whole(rows, cols), a)
		switch rank {
		case min(rows, cols):
			full++
		case 0:
			none++
		default:
			less++
		}
	}
	check.Same(t, "are there all kinds of ranks", full > 10 && less > 10 && none > 10, true)
}

func TestDisguised(t *testing.T) {
	s := made.Source{Words: 2, Seed: 1}
	a := s.Whole(9, 8)
	b := made.Disguised(a)
	same, e := mat.Equal(a, b)
	check.Same(t, "sound", e, api.OK)
	check.Same(t, "the same numbers", same, true)
	least, _ := mat.Least(b)
	check.Mat(t, "in least form", least, a)
}

func TestPlaces(t *testing.T) {
	s := made.Source{Seed: 1}
	for n := range 9 {
		order := s.Order(n)
		if !slices.Equal(slices.Sorted(slices.Values(order)), made.First(n)) {
			t.Errorf("no order of %d places: %v", n, order)
		}
		for count := range n + 1 {
			places := s.Places(count, n)
			if len(places) != count || !slices.ContainsFunc(made.Choices(made.First(n), count), func(c []int) bool { return slices.Equal(c, places) }) {
				t.Errorf("no choice of %d out of %d: %v", count, n, places)
			}
		}
	}
	for odd, orders := range map[bool][][]int{false: {nil, {0}, {1, 2, 0}, {1, 0, 3, 2}}, true: {{1, 0}, {2, 1, 0}, {1, 2, 3, 0}}} {
		for _, order := range orders {
			check.Same(t, "IsOdd", made.IsOdd(order), odd)
		}
	}
}

func TestSmall(t *testing.T) {
	count := 0
	for a := range made.AllSmall(2, 2, []int{-1, 0, 2}) {
		check.Int(t, "Det", check.Num(a.Det(made.First(2), made.First(2))), made.Det(a.Matrix(2)))
		count++
	}
	check.Same(t, "how many", count, 81)
	some := slices.Collect(made.SomeSmall(2, 2, 40, []int{-1, 0, 2}))
	check.Same(t, "how many of them", len(some), 3)
	check.Mat(t, "the last", some[2].Matrix(2), check.Matrix("2 2; 2 2"))
	check.Same(t, "Rank", made.Small{{1, 2, 3}, {2, 4, 6}, {0, 0, 1}}.Rank(made.First(3), made.First(3)), 2)
	check.Same(t, "how many choices", len(made.Choices(made.First(5), 2)), 10)
}

func TestDivisor(t *testing.T) {
	a := made.Small{{2, 4, 4}, {-6, 6, 12}, {10, -4, -16}}
	for size, want := range []int{1, 2, 12, 144, 0} {
		check.Same(t, "Divisor", a.Divisor(size, 3), want)
	}
	check.Same(t, "Divisor of no rows", made.Small{}.Divisor(0, 3), 1)
	check.Same(t, "Divisor of zeros", made.Small{{0, 0}}.Divisor(1, 2), 0)
}

func TestLattice(t *testing.T) {
	l := made.LatticeOf(made.Small{{2, 0, 0}, {0, 3, 0}, {4, 3, 0}}, 3)
	check.Same(t, "rank and divisor", [2]int{l.Rank, l.Minor}, [2]int{2, 6})
	check.Mat(t, "Matrix", l.Matrix(), check.Matrix("2 0 0; 0 3 0; 4 3 0"))
	for _, c := range []struct {
		row  []int
		want bool
	}{{[]int{0, 0, 0}, true}, {[]int{-2, 3, 0}, true}, {[]int{1, 0, 0}, false}, {[]int{2, 2, 0}, false}, {[]int{2, 3, 1}, false}} {
		check.Same(t, "Has", l.Has(c.row), c.want)
	}
	check.Same(t, "Has of both", l.Has([]int{2, 3, 0}, []int{1, 0, 0}), false)
	more := l.With([]int{1, 0, 0}, []int{0, 0, 5})
	check.Same(t, "rank and divisor With others", [2]int{more.Rank, more.Minor}, [2]int{3, 15})
	none := made.LatticeOf(nil, 2)
	check.Same(t, "rank and divisor of no rows", [2]int{none.Rank, none.Minor}, [2]int{0, 1})
	check.Same(t, "Has of no rows", none.Has([]int{0, 1}), false)
	check.Same(t, "Has of no rows, the zero row", none.Has([]int{0, 0}), true)
	check.Mat(t, "Matrix of no rows", none.Matrix(), check.Matrix("0x2"))
}
