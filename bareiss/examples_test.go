package bareiss_test

import (
	"testing"

	"trellis/api"
	"trellis/bareiss"
	"trellis/check"
)

func TestExamplesOfDet(t *testing.T) {
	for _, c := range []struct {
		a    string
		want int
		e    api.Errno
	}{
		{"1 2; 3 4", -2, api.OK},
		{"0 1; 1 0", -1, api.OK},
		{"0x0", 1, api.OK},
		{"1 2", 0, api.ErrFit},
		{"2 0 1; 0 3 0; 4 0 2", 0, api.OK},
	} {
		d, e := bareiss.Det(mx(c.a))
		check.Same(t, of("Det", mx(c.a)), e, c.e)
		check.Int(t, of("Det", mx(c.a)), d, num(c.want))
	}
}

func TestExamplesOfCore(t *testing.T) {
	for _, c := range []struct {
		a          string
		rows, cols []int
		d          int
	}{
		{"1 2; 2 4; 0 0", []int{0}, []int{0}, 1},
		{"3x0", nil, nil, 1},
		{"0 0 2 4; 0 3 1 1; 0 6 2 2", []int{0, 1}, []int{1, 2}, -6},
		{"0 0; 1 2; 2 4; 0 1", []int{1, 3}, []int{0, 1}, 1},
		{"0 0; 0 0", nil, nil, 1},
		{"0x3", nil, nil, 1},
	} {
		holdCore(t, mx(c.a), c.rows, c.cols, num(c.d))
	}
}

func TestExamplesOfLeading(t *testing.T) {
	for _, c := range []struct {
		a, want string
		e       api.Errno
	}{
		{"0 1; 1 0", "1 0 -1", api.OK},
		{"2 1; 1 2", "1 2 3", api.OK},
		{"0x0", "1", api.OK},
		{"1 2", "", api.ErrFit},
	} {
		list, e := bareiss.Leading(mx(c.a))
		check.Same(t, of("Leading", mx(c.a)), e, c.e)
		check.Ints(t, of("Leading", mx(c.a)), list, row(c.want))
	}
}
