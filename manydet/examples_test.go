package manydet_test

import (
	"testing"

	"trellis/api"
	"trellis/check"
	"trellis/manydet"
)

// The chapter's examples, in its order.
func TestExamplesOfBound(t *testing.T) {
	holdBound(t, mx("1 -2; 0 0; 3 4"), num(21))
	holdBound(t, mx("0x3"), num(1))
	holdBound(t, mx("2x0"), num(1))
}

func TestExamplesOfPrimes(t *testing.T) {
	for k, want := range [][]uint64{{}, {2147483647}, {2147483647, 2147483629}} {
		got, e := manydet.Primes(k)
		check.Same(t, "Primes", e, api.OK)
		check.Words(t, "Primes", got, want)
	}
	got, e := manydet.Primes(1025)
	check.Same(t, "Primes(1025)", e, api.ErrArg)
	check.Words(t, "Primes(1025)", got, nil)
}

func TestExamplesOfResidues(t *testing.T) {
	for _, c := range []struct {
		a       string
		ps      []uint64
		workers int
		want    []uint64
		e       api.Errno
	}{
		{"1 2; 3 4", []uint64{5, 2, 5}, 3, []uint64{3, 0, 3}, api.OK},
		{"1 2; 3 4", []uint64{4}, 0, nil, api.ErrArg},
		{"1 2; 3 4", []uint64{4}, 1, nil, api.ErrPrime},
		{"1 2", []uint64{4}, 0, nil, api.ErrFit},
		{"0x0", []uint64{2}, 1, []uint64{1}, api.OK},
	} {
		got, e := manydet.Residues(mx(c.a), c.ps, c.workers)
		check.Same(t, of("Residues", mx(c.a), c.ps, c.workers), e, c.e)
		check.Words(t, of("Residues", mx(c.a), c.ps, c.workers), got, c.want)
	}
}

func TestExamplesOfDet(t *testing.T) {
	for _, c := range []struct {
		a       string
		workers int
		want    int
		e       api.Errno
	}{
		{"1 2; 3 4", 16, -2, api.OK}, {"0x0", 1, 1, api.OK}, {"5", 17, 0, api.ErrArg},
	} {
		got, e := manydet.Det(mx(c.a), c.workers)
		check.Same(t, of("Det", mx(c.a), c.workers), e, c.e)
		check.Int(t, of("Det", mx(c.a), c.workers), got, num(c.want))
	}
}

func TestExamplesOfRank(t *testing.T) {
	holdRank(t, mx("2147483647 0 0; 0 0 0"), 1, 4)
	holdRank(t, mx("3x0"), 0, 1)
}

func TestExamplesOfCramer(t *testing.T) {
	holdCramer(t, mx("1 2; 3 4"), row("5 6"), row("2 -4"), num(-2), 2)
	holdNoCramer(t, mx("1 2; 2 4"), row("1 2"), 2, api.ErrNone)
	holdCramer(t, mx("0x0"), nil, nil, num(1), 1)
}
