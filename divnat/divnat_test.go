package divnat_test

import (
	"math"
	"slices"
	"testing"

	"trellis/api"
	"trellis/check"
	"trellis/divnat"
)

const (
	top  = check.Top
	high = check.High
)

type list = []uint64

// power2 is 2^(64 n): n zero words and a 1.
func power2(n int) list {
	return append(check.Repeat(0, n), 1)
}

// P3.1.
func TestDivMod(t *testing.T) {
	for _, c := range []struct {
		a, b, q, r list
		e          api.Errno
	}{
		{list{7}, list{2}, list{3}, list{1}, api.OK},
		{list{0, 1}, list{3}, list{6148914691236517205}, list{1}, api.OK},
		{list{top, top}, list{0, 1}, list{top}, list{top}, api.OK},
		{list{0, 0, high}, list{top, high}, list{top - 1}, list{top - 1, 2}, api.OK},
		{list{5, 0, 0}, list{9, 0}, nil, list{5}, api.OK},
		{nil, list{4}, nil, nil, api.OK},
		{list{0, 0}, list{4, 0}, nil, nil, api.OK},
		{nil, list{4, 5}, nil, nil, api.OK},
		{list{7}, list{1}, list{7}, nil, api.OK},
		{list{7, 0}, list{7}, list{1}, nil, api.OK},
		{list{6}, list{7}, nil, list{6}, api.OK},
		{list{5, 9, 0}, list{5, 9}, list{1}, nil, api.OK},
		{list{4, 9}, list{5, 9, 0}, nil, list{4, 9}, api.OK},
		{list{6, 9}, list{5, 9}, list{1}, list{1}, api.OK},
		{list{4, 0, 0}, list{5, 9}, nil, list{4}, api.OK},
		{list{top, top, 0}, list{top, 0}, list{1, 1}, nil, api.OK},
		{list{top, top, top}, list{top, top}, list{0, 1}, list{top}, api.OK},
		{list{0, 0, 0, 1}, list{0, 0, 1}, list{0, 1}, nil, api.OK},
		{list{0, 0, 1}, list{1, 1}, list{top}, list{1}, api.OK},
		{list{1, 0, 0, 1}, list{0, high}, list{0, 2}, list{1}, api.OK},
		{list{0, 0, top}, list{0, 1}, list{0, top}, nil, api.OK},
		{check.Repeat(top, 300), check.Repeat(top, 100), slices.Concat(power2(0), power2(99), power2(99)), nil, api.OK},
		{list{4}, list{0, 0}, nil, nil, api.ErrZero},
		{list{4}, nil, nil, nil, api.ErrZero},
		{nil, nil, nil, nil, api.ErrZero},
		{list{0}, list{0}, nil, nil, api.ErrZero},
		{check.Repeat(top, 100), check.Repeat(0, 100), nil, nil, api.ErrZero},
	} {
		q, r, e := divnat.DivMod(c.a, c.b)
		check.Words(t, "DivMod, quotient", q, c.q)
		check.Words(t, "DivMod, rest", r, c.r)
		check.Same(t, "DivMod", e, c.e)
	}
}

// P3.1 for a divisor of one word.
func TestWord(t *testing.T) {
	for _, c := range []struct {
		a list
		w uint64
		q list
		r uint64
		e api.Errno
	}{
		{list{0, 1}, 10, list{1844674407370955161}, 6, api.OK},
		{list{top, top}, 1, list{top, top}, 0, api.OK},
		{nil, 5, nil, 0, api.OK},
		{list{0, 0}, 5, nil, 0, api.OK},
		{list{4, 0}, 5, nil, 4, api.OK},
		{list{5}, 5, list{1}, 0, api.OK},
		{list{top}, top, list{1}, 0, api.OK},
		{list{top - 1}, top, nil, top - 1, api.OK},
		{list{top, top}, top, list{1, 1}, 0, api.OK},
		{list{top, top - 1}, top, list{top}, top - 1, api.OK},
		{list{0, 0, 1}, high, list{0, 2}, 0, api.OK},
		{list{1, 0, 1}, high, list{0, 2}, 1, api.OK},
		{list{0, 1, 0}, 2, list{high}, 0, api.OK},
		{check.Repeat(top, 200), top, check.Repeat(1, 200), 0, api.OK},
		{list{1}, 0, nil, 0, api.ErrZero},
		{nil, 0, nil, 0, api.ErrZero},
		{list{0, 0}, 0, nil, 0, api.ErrZero},
		{list{1, 2, 3}, 0, nil, 0, api.ErrZero},
	} {
		q, r, e := divnat.Word(c.a, c.w)
		check.Words(t, "Word, quotient", q, c.q)
		check.Same(t, "Word, rest", r, c.r)
		check.Same(t, "Word", e, c.e)
	}
}

// P3.2.
func TestExact(t *testing.T) {
	for _, c := range []struct {
		a, b, q list
		e       api.Errno
	}{
		{list{0, 3}, list{0, 1}, list{3}, api.OK},
		{nil, list{7}, nil, api.OK},
		{list{0, 0}, list{7, 7, 0}, nil, api.OK},
		{list{7}, list{1, 0}, list{7}, api.OK},
		{list{7, 0}, list{7}, list{1}, api.OK},
		{list{1, top - 1}, list{top}, list{top}, api.OK},
		{list{2, 3}, list{2, 3, 0}, list{1}, api.OK},
		{list{4, 13, 22, 15}, list{1, 2, 3}, list{4, 5}, api.OK},
		{list{7}, list{2}, nil, api.ErrExact},
		{list{7}, list{8}, nil, api.ErrExact},
		{list{7}, list{0, 1}, nil, api.ErrExact},
		{list{0, top - 1}, list{top}, nil, api.ErrExact},
		{list{2, top - 1}, list{top}, nil, api.ErrExact},
		{list{3, 13, 22, 15}, list{1, 2, 3}, nil, api.ErrExact},
		{list{5, 13, 22, 15}, list{1, 2, 3}, nil, api.ErrExact},
		{list{4, 13, 23, 15}, list{1, 2, 3}, nil, api.ErrExact},
		{list{7}, nil, nil, api.ErrZero},
		{list{7}, list{0, 0}, nil, api.ErrZero},
		{nil, nil, nil, api.ErrZero},
		{list{0}, list{0}, nil, api.ErrZero},
	} {
		q, e := divnat.Exact(c.a, c.b)
		check.Words(t, "Exact", q, c.q)
		check.Same(t, "Exact", e, c.e)
	}
}

// P3.3.
func TestGcd(t *testing.T) {
	for _, c := range []struct{ a, b, want list }{
		{list{12}, list{18}, list{6}},
		{nil, list{5, 0}, list{5}},
		{nil, nil, nil},
		{list{0, 0}, list{0}, nil},
		{nil, list{3, 4, 0}, list{3, 4}},
		{list{0, 6}, list{0, 0, 9}, list{0, 6}},
		{list{1}, list{1}, list{1}},
		{list{1}, list{0, 0, 1}, list{1}},
		{list{7}, list{14, 0}, list{7}},
		{list{top}, list{top - 1}, list{1}},
		{list{high}, list{0, 1}, list{high}},
		{list{top, top}, list{top}, list{top}},
		{list{top, top}, list{top, top, 0}, list{top, top}},
		{list{top, top}, list{top - 1, top}, list{1}},
		{list{0, 0, 1}, list{0, 1}, list{0, 1}},
		{list{0, 0, 1}, list{6}, list{2}},
		{list{1, 2, 3}, list{4, 13, 22, 15}, list{1, 2, 3}},
		{check.Repeat(top, 150), check.Repeat(top, 100), check.Repeat(top, 50)},
	} {
		check.Words(t, "Gcd", divnat.Gcd(c.a, c.b), c.want)
		check.Words(t, "Gcd, turned", divnat.Gcd(c.b, c.a), c.want)
	}
}

// P3.4 for square roots.
func TestSqrt(t *testing.T) {
	for _, c := range []struct{ a, root, left list }{
		{list{17}, list{4}, list{1}},
		{list{0, 1}, list{1 << 32}, nil},
		{list{top}, list{4294967295}, list{8589934590}},
		{nil, nil, nil},
		{list{0, 0}, nil, nil},
		{list{1, 0}, list{1}, nil},
		{list{2}, list{1}, list{1}},
		{list{3}, list{1}, list{2}},
		{list{4}, list{2}, nil},
		{list{0, 0, 1, 0}, list{0, 1}, nil},
		{list{top, top}, list{top}, list{top - 1, 1}},
		{list{0, top - 1}, list{top - 1}, list{top - 3, 1}},
		{list{1, top - 1}, list{top}, nil},
		{list{2, top - 1}, list{top}, list{1}},
		{check.Repeat(top, 4), list{top, top}, list{top - 1, top, 1}},
		{check.Repeat(top, 200), check.Repeat(top, 100), slices.Concat(list{top - 1}, check.Repeat(top, 99), list{1})},
		{power2(200), power2(100), nil},
	} {
		root, left := divnat.Sqrt(c.a)
		check.Words(t, "Sqrt, root", root, c.root)
		check.Words(t, "Sqrt, left", left, c.left)
	}
}

// P3.4.
func TestRoot(t *testing.T) {
	for _, c := range []struct {
		a    list
		k    int
		want list
		e    api.Errno
	}{
		{list{26}, 3, list{2}, api.OK},
		{list{27}, 3, list{3}, api.OK},
		{list{0, 5}, 1, list{0, 5}, api.OK},
		{list{1, 0}, 1, list{1}, api.OK},
		{nil, 1, nil, api.OK},
		{list{0, 5, 0}, 1, list{0, 5}, api.OK},
		{list{5}, math.MaxInt, list{1}, api.OK},
		{check.Repeat(top, 100), math.MaxInt, list{1}, api.OK},
		{nil, math.MaxInt, nil, api.OK},
		{nil, 2, nil, api.OK},
		{list{0, 0}, 4, nil, api.OK},
		{list{1}, 2, list{1}, api.OK},
		{list{4}, 2, list{2}, api.OK},
		{list{top}, 63, list{2}, api.OK},
		{list{top}, 64, list{1}, api.OK},
		{list{top}, 65, list{1}, api.OK},
		{list{high}, 63, list{2}, api.OK},
		{list{high - 1}, 63, list{1}, api.OK},
		{list{high - 1}, 62, list{2}, api.OK},
		{list{0, 1}, 64, list{2}, api.OK},
		{list{0, 1}, 65, list{1}, api.OK},
		{list{top, top, top}, 3, list{top}, api.OK},
		{list{0, 0, 0, 1}, 3, list{0, 1}, api.OK},
		{power2(300), 300, list{0, 1}, api.OK},
		{power2(300), 600, list{1 << 32}, api.OK},
		{power2(300), 64 * 300, list{2}, api.OK},
		{power2(300), 64*300 + 1, list{1}, api.OK},
		{check.Repeat(top, 300), 300, list{top}, api.OK},
		{check.Repeat(top, 300), 64 * 150, list{3}, api.OK},
		{check.Repeat(top, 300), 64*300 - 1, list{2}, api.OK},
		{check.Repeat(top, 300), 64 * 300, list{1}, api.OK},
		{nil, 0, nil, api.ErrArg},
		{list{5}, 0, nil, api.ErrArg},
		{list{5}, -1, nil, api.ErrArg},
		{list{0, 0}, -2, nil, api.ErrArg},
		{list{5}, math.MinInt, nil, api.ErrArg},
	} {
		root, e := divnat.Root(c.a, c.k)
		check.Words(t, "Root", root, c.want)
		check.Same(t, "Root", e, c.e)
	}
}

// P3.5.
func TestStrip(t *testing.T) {
	for _, c := range []struct {
		a, b list
		n    int
		left list
		e    api.Errno
	}{
		{list{24}, list{2}, 3, list{3}, api.OK},
		{list{72}, list{6}, 2, list{2}, api.OK},
		{list{0, 1}, list{4}, 32, list{1}, api.OK},
		{list{7}, list{0, 1}, 0, list{7}, api.OK},
		{list{1}, list{2}, 0, list{1}, api.OK},
		{list{2}, list{2}, 1, list{1}, api.OK},
		{list{7, 0}, list{2, 0}, 0, list{7}, api.OK},
		{list{9}, list{10}, 0, list{9}, api.OK},
		{list{24}, list{4}, 1, list{6}, api.OK},
		{list{32}, list{4}, 2, list{2}, api.OK},
		{list{0, 2}, list{4}, 32, list{2}, api.OK},
		{list{0, 2}, list{8}, 21, list{4}, api.OK},
		{list{5, 6}, list{5, 6, 0}, 1, list{1}, api.OK},
		{list{0, 0, 0, 9}, list{0, 1}, 3, list{9}, api.OK},
		{list{0, 0, 0, 9}, list{0, 0, 1}, 1, list{0, 9}, api.OK},
		{power2(400), list{2}, 64 * 400, list{1}, api.OK},
		{power2(400), list{8}, 64 * 400 / 3, list{2}, api.OK},
		{check.Repeat(top, 200), list{top}, 1, check.Repeat(1, 200), api.OK},
		{list{0}, list{3}, 0, nil, api.ErrArg},
		{nil, list{3}, 0, nil, api.ErrArg},
		{nil, nil, 0, nil, api.ErrArg},
		{list{8}, nil, 0, nil, api.ErrArg},
		{list{8}, list{0, 0}, 0, nil, api.ErrArg},
		{list{8}, list{1}, 0, nil, api.ErrArg},
		{list{8}, list{1, 0}, 0, nil, api.ErrArg},
		{list{1}, list{1}, 0, nil, api.ErrArg},
		{nil, list{1}, 0, nil, api.ErrArg},
	} {
		n, left, e := divnat.Strip(c.a, c.b)
		check.Same(t, "Strip, count", n, c.n)
		check.Words(t, "Strip, left", left, c.left)
		check.Same(t, "Strip", e, c.e)
	}
}
