package modp_test

import (
	"testing"

	"trellis/api"
	"trellis/check"
	"trellis/modp"
)

// The chapter's examples, in its order.
func TestExamplesOfPrimes(t *testing.T) {
	for _, c := range []struct {
		n    uint64
		want bool
		e    api.Errno
	}{
		{0, false, api.OK}, {1, false, api.OK}, {2, true, api.OK}, {9, false, api.OK}, {2147483647, true, api.OK}, {2147483648, false, api.ErrLarge},
	} {
		holdPrime(t, c.n, c.want, c.e)
	}
	for _, c := range []struct {
		n, want uint64
		e       api.Errno
	}{
		{3, 2, api.OK}, {2, 0, api.ErrNone}, {2147483649, 0, api.ErrLarge}, {2147483648, 2147483647, api.OK}, {2147483647, 2147483629, api.OK},
	} {
		holdBelow(t, c.n, c.want, c.e)
	}
}

func TestExamplesOfNumbers(t *testing.T) {
	for _, c := range []struct {
		a    string
		p    uint64
		want uint64
		e    api.Errno
	}{
		{"2 1; 1 1", 7, 1, api.OK}, {"0x0", 2, 1, api.OK}, {"1 2", 5, 0, api.ErrFit}, {"1 2", 6, 0, api.ErrFit}, {"1", 6, 0, api.ErrPrime},
	} {
		d, e := modp.Det(mx(c.a), c.p)
		check.Same(t, of("Det", mx(c.a), c.p), d, c.want)
		check.Same(t, of("Det", mx(c.a), c.p), e, c.e)
	}
	rank, e := modp.Rank(mx("2 0; 0 3"), 3)
	check.Same(t, "Rank(2 0; 0 3, 3)", rank, 1)
	check.Same(t, "Rank(2 0; 0 3, 3)", e, api.OK)
}

func TestExamplesOfMatrices(t *testing.T) {
	for _, c := range []struct {
		name, a string
		p       uint64
		want    string
		e       api.Errno
	}{
		{"Reduce", "-1 7; 0 -10", 5, "4 2; 0 0", api.OK},
		{"Reduce", "1", 4, "0x0", api.ErrPrime},
		{"Reduce", "1", 2147483659, "0x0", api.ErrPrime},
		{"Echelon", "0 2 1; 3 0 1", 5, "1 0 2; 0 1 3", api.OK},
		{"Echelon", "2 4; 1 2", 7, "1 2; 0 0", api.OK},
		{"Inverse", "2 1; 1 1", 5, "1 4; 4 2", api.OK},
		{"Inverse", "2 0; 0 3", 3, "0x0", api.ErrNone},
		{"Kernel", "1 2; 2 4; 0 1", 5, "1 2 0", api.OK},
		{"Kernel", "1 0; 0 1", 5, "0x2", api.OK},
		{"Kernel", "2x0", 3, "1 0; 0 1", api.OK},
	} {
		got, e := takers()[c.name](mx(c.a), c.p)
		check.Same(t, of(c.name, mx(c.a), c.p), e, c.e)
		check.Mat(t, of(c.name, mx(c.a), c.p), got, mx(c.want))
	}
}

func TestExamplesOfSolve(t *testing.T) {
	for _, c := range []struct {
		a, b, want string
		e          api.Errno
	}{
		{"1 2; 2 4; 0 1", "1 3", "0 3 1", api.OK},
		{"1 2; 2 4", "0 1", "", api.ErrNone},
		{"0x2", "0 5", "", api.OK},
		{"0x2", "1 0", "", api.ErrNone},
	} {
		x, e := modp.Solve(mx(c.a), row(c.b), 5)
		check.Same(t, of("Solve of "+c.b, mx(c.a), 5), e, c.e)
		check.Ints(t, of("Solve of "+c.b, mx(c.a), 5), x, row(c.want))
	}
}
