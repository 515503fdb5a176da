package mulnat_test

import (
	"math"
	"slices"
	"testing"

	"trellis/api"
	"trellis/check"
	"trellis/mulnat"
)

const (
	top  = check.Top
	high = check.High
)

type list = []uint64

// P2.1.
func TestWord(t *testing.T) {
	for _, c := range []struct {
		a    list
		w    uint64
		want list
	}{
		{nil, 0, nil},
		{nil, 7, nil},
		{list{0, 0}, top, nil},
		{list{5}, 0, nil},
		{list{1, 2, 3}, 0, nil},
		{list{5}, 1, list{5}},
		{list{5, 0, 0}, 3, list{15}},
		{list{0, 0, 3}, 5, list{0, 0, 15}},
		{list{top}, top, list{1, top - 1}},
		{list{top, top}, 2, list{top - 1, top, 1}},
		{list{top, top}, top, list{1, top, top - 1}},
		{list{high, 0, high}, 2, list{0, 1, 0, 1}},
		{list{1 << 32}, 1 << 31, list{high}},
		{list{1 << 32}, 1 << 32, list{0, 1}},
		{check.Repeat(top, 200), top, append(append(list{1}, check.Repeat(top, 199)...), top-1)},
		{append(check.Repeat(top, 200), 0, 0), 1, check.Repeat(top, 200)},
	} {
		check.Words(t, "Word", mulnat.Word(c.a, c.w), c.want)
	}
}

// P2.2.
func TestMul(t *testing.T) {
	for _, c := range []struct{ a, b, want list }{
		{nil, nil, nil},
		{list{}, list{0, 0}, nil},
		{list{0, 0}, list{7}, nil},
		{list{}, check.Repeat(top, 300), nil},
		{check.Repeat(0, 300), check.Repeat(top, 300), nil},
		{list{3}, list{5}, list{15}},
		{list{3, 0}, list{5, 0, 0}, list{15}},
		{list{1}, list{0, 7, 0}, list{0, 7}},
		{list{top}, list{top}, list{1, top - 1}},
		{list{0, 1}, list{0, 1, 0}, list{0, 0, 1}},
		{list{high}, list{2}, list{0, 1}},
		{list{1 << 32}, list{1 << 31}, list{high}},
		{list{top, top}, list{top, top}, list{1, 0, top - 1, top}},
		{list{1, 2, 3}, list{4, 5}, list{4, 13, 22, 15}},
	} {
		check.Words(t, "Mul", mulnat.Mul(c.a, c.b), c.want)
		check.Words(t, "Mul, turned", mulnat.Mul(c.b, c.a), c.want)
	}
}

// allOnes is (2^64m - 1) times (2^64n - 1) for m at most n, by its words: 1, m-1 times 0, n-m times the greatest word, the word below it, m-1 times the greatest.
func allOnes(m, n int) list {
	if m == 0 {
		return nil
	}
	if m == n {
		return slices.Concat(list{1}, check.Repeat(0, n-1), list{top - 1}, check.Repeat(top, n-1))
	}
	return slices.Concat(list{1}, check.Repeat(0, m-1), check.Repeat(top, n-m), list{top - 1}, check.Repeat(top, m-1))
}

// lengths are lengths of factors, the lesser first: all short ones, and those around which a factor is halved once, twice and thrice.
func lengths() []int {
	var all []int
	for n := range 270 {
		if n < 10 || n%32 < 4 || n%32 > 28 {
			all = append(all, n)
		}
	}
	return all
}

// P2.2 and P2.5 where all carries run.
func TestMulOfAllOnes(t *testing.T) {
	for i, n := range lengths() {
		for _, m := range lengths()[:i+1] {
			check.Words(t, "Mul", mulnat.Mul(check.Repeat(top, m), check.Repeat(top, n)), allOnes(m, n))
			check.Words(t, "Mul, turned", mulnat.Mul(check.Repeat(top, n), check.Repeat(top, m)), allOnes(m, n))
		}
		check.Words(t, "Square", mulnat.Square(check.Repeat(top, n)), allOnes(n, n))
	}
	check.Words(t, "Mul of a long and a very long factor", mulnat.Mul(check.Repeat(top, 100), check.Repeat(top, 20000)), allOnes(100, 20000))
	check.Words(t, "Mul of very long factors", mulnat.Mul(check.Repeat(top, 6000), check.Repeat(top, 7001)), allOnes(6000, 7001))
	check.Words(t, "Square of a very long factor", mulnat.Square(check.Repeat(top, 6001)), allOnes(6001, 6001))
}

// P2.2 where halves are 0, or begin with zero words.
func TestMulOfHoles(t *testing.T) {
	one := func(n int) list { return append(check.Repeat(0, n), 1) }
	for _, m := range []int{0, 1, 40, 63, 64, 65, 100, 127, 128, 129, 200} {
		for _, n := range []int{0, 1, 63, 64, 65, 128, 129, 300, 511} {
			check.Words(t, "Mul of powers of 2", mulnat.Mul(one(m), one(n)), one(m+n))
			// (2^64m + 1) times (2^64n + 1): at m = n the middle two fall together, at m or n = 0 the factor is 2.
			a, b, want := one(m), one(n), one(m+n)
			a[0]++
			b[0]++
			want[0]++
			want[m]++
			want[n]++
			check.Words(t, "Mul of powers of 2, plus 1", mulnat.Mul(a, b), want)
		}
	}
}

// P2.3.
func TestMulAdd(t *testing.T) {
	for _, c := range []struct{ a, b, c, want list }{
		{nil, nil, nil, nil},
		{nil, list{9}, list{1, 0}, list{1}},
		{list{9}, nil, list{0, 1, 0}, list{0, 1}},
		{list{2}, list{3}, nil, list{6}},
		{list{2}, list{3}, list{0, 0, 0}, list{6}},
		{list{2}, list{3}, list{4}, list{10}},
		{list{top}, list{1}, list{1}, list{0, 1}},
		{list{top}, list{top}, list{top, 1}, list{0, 0, 1}},
		{list{top, top}, list{top, top}, list{top, top, 1}, list{0, 0, 0, 0, 1}},
		{list{2}, list{3}, list{4, 5, 6}, list{10, 5, 6}},
		{check.Repeat(top, 100), check.Repeat(top, 100), list{top}, slices.Concat(list{0, 1}, check.Repeat(0, 98), list{top - 1}, check.Repeat(top, 99))},
	} {
		check.Words(t, "MulAdd", mulnat.MulAdd(c.a, c.b, c.c), c.want)
	}
}

// P2.4.
func TestMulLow(t *testing.T) {
	for _, c := range []struct {
		a, b list
		n    int
		want list
		e    api.Errno
	}{
		{list{top}, list{top}, 64, list{1}, api.OK},
		{list{top}, list{top}, 65, list{1}, api.OK},
		{list{top}, list{top}, 66, list{1, 2}, api.OK},
		{list{top}, list{top}, 127, list{1, high - 2}, api.OK},
		{list{top}, list{top}, 128, list{1, top - 1}, api.OK},
		{list{top, 0}, list{top, 0, 0}, 1000, list{1, top - 1}, api.OK},
		{list{7}, list{7}, 6, list{49}, api.OK},
		{list{7}, list{7}, 5, list{17}, api.OK},
		{list{7}, list{7}, 4, list{1}, api.OK},
		{list{7}, list{7}, 1, list{1}, api.OK},
		{list{7}, list{7}, 0, nil, api.OK},
		{list{7}, list{7}, math.MaxInt, list{49}, api.OK},
		{list{0, 1}, list{0, 1}, 128, nil, api.OK},
		{list{0, 1}, list{0, 1}, 129, list{0, 0, 1}, api.OK},
		{list{6, 9}, list{5, 9}, 64, list{30}, api.OK}, // the words above are not in it
		{check.Repeat(top, 200), check.Repeat(top, 200), 64 * 200, list{1}, api.OK},
		{check.Repeat(top, 200), check.Repeat(top, 200), 64*200 + 2, slices.Concat(list{1}, check.Repeat(0, 199), list{2}), api.OK},
		{nil, list{7}, 0, nil, api.OK},
		{nil, nil, math.MaxInt, nil, api.OK},
		{list{7}, list{7}, -1, nil, api.ErrArg},
		{list{7}, list{7}, -64, nil, api.ErrArg},
		{nil, list{7}, math.MinInt, nil, api.ErrArg},
		{nil, nil, -1, nil, api.ErrArg},
	} {
		got, e := mulnat.MulLow(c.a, c.b, c.n)
		check.Words(t, "MulLow", got, c.want)
		check.Same(t, "MulLow", e, c.e)
		got, e = mulnat.MulLow(c.b, c.a, c.n)
		check.Words(t, "MulLow, turned", got, c.want)
		check.Same(t, "MulLow, turned", e, c.e)
	}
}

// P2.5.
func TestSquare(t *testing.T) {
	for _, c := range []struct{ a, want list }{
		{nil, nil},
		{list{0, 0, 0}, nil},
		{list{1, 0}, list{1}},
		{list{1 << 32}, list{0, 1}},
		{list{top}, list{1, top - 1}},
		{list{0, 0, 3}, list{0, 0, 0, 0, 9}},
		{list{2, 3}, list{4, 12, 9}},
		{check.Repeat(top, 100), slices.Concat(list{1}, check.Repeat(0, 99), list{top - 1}, check.Repeat(top, 99))},
	} {
		check.Words(t, "Square", mulnat.Square(c.a), c.want)
	}
}

// P2.6.
func TestPow(t *testing.T) {
	for _, c := range []struct {
		a    list
		n    int
		want list
		e    api.Errno
	}{
		{nil, 0, list{1}, api.OK},
		{list{0, 0}, 0, list{1}, api.OK},
		{list{7}, 0, list{1}, api.OK},
		{check.Repeat(top, 300), 0, list{1}, api.OK},
		{nil, 1, nil, api.OK},
		{nil, 3, nil, api.OK},
		{list{0, 0}, 256, nil, api.OK},
		{list{1}, 256, list{1}, api.OK},
		{list{7, 0}, 1, list{7}, api.OK},
		{list{7}, 2, list{49}, api.OK},
		{list{7}, 3, list{343}, api.OK},
		{list{7}, 5, list{16807}, api.OK},
		{list{7}, 6, list{117649}, api.OK},
		{list{2}, 63, list{high}, api.OK},
		{list{2}, 64, list{0, 1}, api.OK},
		{list{2}, 255, list{0, 0, 0, high}, api.OK},
		{list{2}, 256, list{0, 0, 0, 0, 1}, api.OK},
		{list{10}, 20, list{0x6bc75e2d63100000, 5}, api.OK},
		{list{0, 1, 0}, 256, append(check.Repeat(0, 256), 1), api.OK},
		{list{1}, 257, nil, api.ErrLarge},
		{nil, 257, nil, api.ErrLarge},
		{list{2}, math.MaxInt, nil, api.ErrLarge},
		{list{1}, -1, nil, api.ErrArg},
		{nil, -1, nil, api.ErrArg},
		{list{2}, math.MinInt, nil, api.ErrArg},
	} {
		got, e := mulnat.Pow(c.a, c.n)
		check.Words(t, "Pow", got, c.want)
		check.Same(t, "Pow", e, c.e)
	}
}

// P2.6: each power is the one below it times the base.
func TestPowStepByStep(t *testing.T) {
	for _, a := range []list{nil, {1}, {3}, {10, 0}, {top}, {5, 0, top}} {
		want := list{1}
		for n := range api.MaxPow + 1 {
			got, e := mulnat.Pow(a, n)
			check.Words(t, "Pow", got, want)
			check.Same(t, "Pow", e, api.OK)
			want = mulnat.Mul(want, a)
		}
	}
}

// P2.7.
func TestProduct(t *testing.T) {
	for _, c := range []struct {
		of   []list
		want list
	}{
		{nil, list{1}},
		{[]list{}, list{1}},
		{[]list{nil}, nil},
		{[]list{{7, 0, 0}}, list{7}},
		{[]list{{2}, {3}}, list{6}},
		{[]list{{2}, {3}, {7}}, list{42}},
		{[]list{{2}, nil, {7}}, nil},
		{[]list{{2}, {3}, {0, 0}}, nil},
		{[]list{{0}, {3}, {5}}, nil},
		{[]list{{1}, {1, 0}, {1}, {1}}, list{1}},
		{[]list{{2}, {3}, {5}, {7}, {11}, {13}, {17}}, list{510510}},
		{[]list{{0, 1}, {0, 2}, {0, 3}, {0, 4}, {0, 5}}, list{0, 0, 0, 0, 0, 120}},
		{slices.Repeat([]list{{2}}, 1000), append(check.Repeat(0, 15), 1<<40)},
		{[]list{{top}, check.Repeat(top, 200), {2}}, mulnat.Word(mulnat.Word(check.Repeat(top, 200), top), 2)},
	} {
		check.Words(t, "Product", mulnat.Product(c.of...), c.want)
	}
	check.Words(t, "Product()", mulnat.Product(), list{1})
	check.Words(t, "Product of two", mulnat.Product(list{top}, list{top}), list{1, top - 1})
}
