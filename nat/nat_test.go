package nat_test

import (
	"math"
	"testing"

	"trellis/api"
	"trellis/check"
	"trellis/nat"
)

const (
	top  = check.Top
	high = check.High
)

type list = []uint64

// P1.1.
func TestLeast(t *testing.T) {
	for _, c := range []struct{ a, want list }{
		{nil, nil},
		{list{}, nil},
		{list{0}, nil},
		{list{0, 0}, nil},
		{check.Repeat(0, 1000), nil},
		{list{5}, list{5}},
		{list{5, 0, 0}, list{5}},
		{list{0, 7}, list{0, 7}},
		{list{0, 7, 0, 9, 0}, list{0, 7, 0, 9}},
		{list{top, top, 0}, list{top, top}},
	} {
		check.Words(t, "Least", nat.Least(c.a), c.want)
	}
}

// P1.2.
func TestCmp(t *testing.T) {
	for _, c := range []struct {
		a, b list
		want int
	}{
		{nil, nil, 0},
		{nil, list{0, 0}, 0},
		{list{5, 0}, list{5}, 0},
		{list{5, 0}, list{5, 0, 0, 0}, 0},
		{list{0, 1}, list{top}, 1},
		{list{}, list{0, 0, 1}, -1},
		{list{1, 0, 0, 0}, list{0, 1}, -1},
		{list{3, 4}, list{4, 3}, 1},
		{list{3, 4, 9}, list{4, 4, 9}, -1},
		{list{high}, list{high - 1}, 1}, // words have no sign
		{list{top}, list{1}, 1},
	} {
		check.Same(t, "Cmp", nat.Cmp(c.a, c.b), c.want)
		check.Same(t, "Cmp, turned round", nat.Cmp(c.b, c.a), -c.want)
	}
}

// P1.3.
func TestAdd(t *testing.T) {
	for _, c := range []struct{ a, b, want list }{
		{nil, nil, nil},
		{nil, list{0}, nil},
		{list{0, 0}, list{0, 0, 0}, nil},
		{list{4, 0}, nil, list{4}},
		{list{top}, list{1}, list{0, 1}},
		{list{top, top, 0}, list{1}, list{0, 0, 1}},
		{list{top, 0, 7}, list{1}, list{0, 1, 7}},
		{list{1, 2}, list{3, 4, 5}, list{4, 6, 5}},
		{list{top, top}, list{top, top}, list{top - 1, top, 1}},
		{list{top, 0, 0, 0}, list{0, 0}, list{top}},
		{check.Repeat(top, 1000), list{1}, append(check.Repeat(0, 1000), 1)},
	} {
		check.Words(t, "Add", nat.Add(c.a, c.b), c.want)
		check.Words(t, "Add, turned round", nat.Add(c.b, c.a), c.want)
	}
}

// P1.4.
func TestSub(t *testing.T) {
	for _, c := range []struct {
		a, b, want list
		e          api.Errno
	}{
		{nil, nil, nil, api.OK},
		{nil, list{0, 0}, nil, api.OK},
		{list{0, 1}, list{1}, list{top}, api.OK},
		{list{3, 0}, list{3}, nil, api.OK},
		{list{3}, list{3, 0, 0}, nil, api.OK},
		{list{7, 8, 9}, list{5, 8, 9}, list{2}, api.OK},
		{list{0, 0, 1}, list{1, 0, 0}, list{top, top}, api.OK},
		{append(check.Repeat(0, 1000), 1), list{1}, check.Repeat(top, 1000), api.OK},
		{append(check.Repeat(0, 1000), 2), list{1}, append(check.Repeat(top, 1000), 1), api.OK},
		{list{1}, list{0, 1}, nil, api.ErrArg},
		{nil, list{1}, nil, api.ErrArg},
		{list{6, 0, 0}, list{7}, nil, api.ErrArg},
		{list{top, 4}, list{0, 5}, nil, api.ErrArg},
	} {
		got, e := nat.Sub(c.a, c.b)
		check.Words(t, "Sub", got, c.want)
		check.Same(t, "Sub", e, c.e)
	}
}

// shiftCase is a case of one of the calls that take a list and a number of places.
type shiftCase struct {
	a    list
	n    int
	want list
	e    api.Errno
}

func tryShifts(t *testing.T, call string, f func(list, int) (list, api.Errno), cases []shiftCase) {
	t.Helper()
	for _, c := range cases {
		got, e := f(c.a, c.n)
		check.Words(t, call, got, c.want)
		check.Same(t, call, e, c.e)
	}
}

// P1.5.
func TestShl(t *testing.T) {
	tryShifts(t, "Shl", nat.Shl, []shiftCase{
		{nil, 0, nil, api.OK},
		{list{0, 0}, 3, nil, api.OK},
		{list{7, 0}, 0, list{7}, api.OK},
		{list{7, top, 0}, 0, list{7, top}, api.OK},
		{list{1}, 63, list{high}, api.OK},
		{list{1}, 64, list{0, 1}, api.OK},
		{list{1}, 65, list{0, 2}, api.OK},
		{list{3}, 63, list{high, 1}, api.OK},
		{list{top, top, 0}, 1, list{top - 1, top, 1}, api.OK},
		{list{5, 6, 0}, 128, list{0, 0, 5, 6}, api.OK},
		{list{5}, api.MaxShift, append(check.Repeat(0, api.MaxShift/64), 5), api.OK},
		{list{top, 3, 0}, api.MaxShift - 1, append(check.Repeat(0, api.MaxShift/64-1), high, top, 1), api.OK},
		{nil, api.MaxShift, nil, api.OK},
		{nil, api.MaxShift + 1, nil, api.ErrLarge},
		{list{5}, api.MaxShift + 1, nil, api.ErrLarge},
		{list{0, 0}, math.MaxInt, nil, api.ErrLarge},
		{list{1}, math.MaxInt, nil, api.ErrLarge},
		{list{1}, -1, nil, api.ErrArg},
		{nil, -1, nil, api.ErrArg},
		{list{1}, -64, nil, api.ErrArg},
		{list{1}, math.MinInt, nil, api.ErrArg},
	})
}

// P1.6.
func TestShr(t *testing.T) {
	tryShifts(t, "Shr", nat.Shr, []shiftCase{
		{nil, 0, nil, api.OK},
		{list{0, 0}, 1, nil, api.OK},
		{list{7, 9, 0}, 0, list{7, 9}, api.OK},
		{list{0, 1}, 1, list{high}, api.OK},
		{list{0, 1}, 64, list{1}, api.OK},
		{list{0, 1}, 65, nil, api.OK},
		{list{top}, 63, list{1}, api.OK},
		{list{top}, 64, nil, api.OK},
		{list{top, 3, 0}, 64, list{3}, api.OK},
		{list{top, 3}, 65, list{1}, api.OK},
		{list{1, 2, 3}, 4, list{2 << 60, 3 << 60}, api.OK},
		{list{5}, api.MaxShift + 1, nil, api.OK},
		{append(check.Repeat(0, api.MaxShift/64+1), 5), api.MaxShift + 64, list{5}, api.OK},
		{list{5}, math.MaxInt, nil, api.OK},
		{nil, math.MaxInt, nil, api.OK},
		{list{5}, -1, nil, api.ErrArg},
		{nil, -1, nil, api.ErrArg},
		{list{5, 6}, -64, nil, api.ErrArg},
		{list{5}, math.MinInt, nil, api.ErrArg},
	})
}

// P1.7.
func TestLow(t *testing.T) {
	tryShifts(t, "Low", nat.Low, []shiftCase{
		{nil, 0, nil, api.OK},
		{nil, 70, nil, api.OK},
		{list{6}, 0, nil, api.OK},
		{list{6, 7}, 0, nil, api.OK},
		{list{6}, 1, nil, api.OK},
		{list{6}, 2, list{2}, api.OK},
		{list{6}, 3, list{6}, api.OK},
		{list{8}, 3, nil, api.OK},
		{list{5, 1}, 64, list{5}, api.OK},
		{list{5, 1}, 65, list{5, 1}, api.OK},
		{list{top, top}, 63, list{high - 1}, api.OK},
		{list{top, top}, 127, list{top, high - 1}, api.OK},
		{list{top, top}, 128, list{top, top}, api.OK},
		{list{9, 0, 1}, 128, list{9}, api.OK},
		{list{0xff, 0xff}, 68, list{0xff, 0xf}, api.OK},
		{list{6, 0, 0}, 70, list{6}, api.OK},
		{list{6, 0}, api.MaxShift + 1, list{6}, api.OK},
		{list{6, 0}, math.MaxInt, list{6}, api.OK},
		{list{6}, -1, nil, api.ErrArg},
		{nil, -1, nil, api.ErrArg},
		{list{6}, math.MinInt, nil, api.ErrArg},
	})
}

// P1.8 and P1.9.
func TestBitLenAndTwos(t *testing.T) {
	for _, c := range []struct {
		a          list
		bits, twos int
	}{
		{nil, 0, -1},
		{list{0}, 0, -1},
		{list{0, 0, 0}, 0, -1},
		{list{1}, 1, 0},
		{list{1, 0}, 1, 0},
		{list{6}, 3, 1},
		{list{high}, 64, 63},
		{list{top}, 64, 0},
		{list{0, 1}, 65, 64},
		{list{0, 4}, 67, 66},
		{list{0, 4, 0}, 67, 66},
		{list{0, 0, high, 1}, 193, 191},
		{append(check.Repeat(0, api.MaxShift/64), 1), api.MaxShift + 1, api.MaxShift},
	} {
		check.Same(t, "BitLen", nat.BitLen(c.a), c.bits)
		check.Same(t, "Twos", nat.Twos(c.a), c.twos)
	}
}

// P1.10.
func TestBit(t *testing.T) {
	for _, c := range []struct {
		a       list
		i, want int
	}{
		{nil, 0, 0},
		{nil, math.MaxInt, 0},
		{list{1}, 0, 1},
		{list{1}, 1, 0},
		{list{1}, 64, 0},
		{list{high}, 63, 1},
		{list{high}, 64, 0},
		{list{0, 4}, 66, 1},
		{list{0, 4}, 65, 0},
		{list{0, 4, 0}, 130, 0},
		{list{0, 4}, 128, 0},
		{list{top, top}, -1, 0},
		{list{top, top}, -63, 0},
		{list{top, top}, -64, 0},
		{list{top, top}, math.MinInt, 0},
		{list{top, top}, math.MaxInt, 0},
	} {
		check.Same(t, "Bit", nat.Bit(c.a, c.i), c.want)
	}
}
