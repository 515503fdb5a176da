package nat_test

import (
	"fmt"
	"testing"

	"trellis/api"
	"trellis/check"
	"trellis/nat"
)

// digits is a natural by its binary digits, the lowest first, none of them 0 at the high end.
// What the calls answer is held against schoolbook reckoning with these, a digit at a time.
type digits []int

func digitsOf(a list) digits {
	var d digits
	for _, w := range a {
		for range 64 {
			d = append(d, int(w%2))
			w /= 2
		}
	}
	return d.least()
}

func (d digits) least() digits {
	for len(d) > 0 && d[len(d)-1] == 0 {
		d = d[:len(d)-1]
	}
	return d
}

// words is the list of d in least form.
func (d digits) words() list {
	var a list
	for i, x := range d {
		if i%64 == 0 {
			a = append(a, 0)
		}
		if x == 1 {
			a[i/64] += 1 << (i % 64)
		}
	}
	return a
}

func (d digits) at(i int) int {
	if i < 0 || i >= len(d) {
		return 0
	}
	return d[i]
}

func (d digits) cmp(f digits) int {
	for i := max(len(d), len(f)) - 1; i >= 0; i-- {
		if d.at(i) != f.at(i) {
			return d.at(i) - f.at(i)
		}
	}
	return 0
}

func (d digits) add(f digits) digits {
	var sum digits
	carry := 0
	for i := range max(len(d), len(f)) + 1 {
		x := d.at(i) + f.at(i) + carry
		sum = append(sum, x%2)
		carry = x / 2
	}
	return sum.least()
}

// sub takes f off d, which is at least f.
func (d digits) sub(f digits) digits {
	var diff digits
	borrow := 0
	for i := range len(d) {
		x := d.at(i) - f.at(i) - borrow
		borrow = 0
		if x < 0 {
			x += 2
			borrow = 1
		}
		diff = append(diff, x)
	}
	return diff.least()
}

func (d digits) shl(n int) digits {
	return append(make(digits, n), d...).least()
}

func (d digits) shr(n int) digits {
	return d[min(n, len(d)):]
}

func (d digits) low(n int) digits {
	return d[:min(n, len(d))].least()
}

func (d digits) twos() int {
	for i, x := range d {
		if x == 1 {
			return i
		}
	}
	return -1
}

func TestPairsByDigits(t *testing.T) {
	lists := check.Samples()
	for _, a := range lists {
		d := digitsOf(a)
		for _, b := range lists {
			f := digitsOf(b)
			order := d.cmp(f)
			check.Same(t, fmt.Sprintf("Cmp(%#x, %#x)", a, b), nat.Cmp(a, b), order)
			check.Words(t, fmt.Sprintf("Add(%#x, %#x)", a, b), nat.Add(a, b), d.add(f).words())
			call := fmt.Sprintf("Sub(%#x, %#x)", a, b)
			diff, e := nat.Sub(a, b)
			if order < 0 {
				check.Words(t, call, diff, nil)
				check.Same(t, call, e, api.ErrArg)
				continue
			}
			check.Words(t, call, diff, d.sub(f).words())
			check.Same(t, call, e, api.OK)
		}
	}
}

func TestShiftsByDigits(t *testing.T) {
	for _, a := range check.Samples() {
		d := digitsOf(a)
		for n := range 260 {
			tryShifts(t, fmt.Sprintf("Shl(%#x, %d)", a, n), nat.Shl, []shiftCase{{a, n, d.shl(n).words(), api.OK}})
			tryShifts(t, fmt.Sprintf("Shr(%#x, %d)", a, n), nat.Shr, []shiftCase{{a, n, d.shr(n).words(), api.OK}})
			tryShifts(t, fmt.Sprintf("Low(%#x, %d)", a, n), nat.Low, []shiftCase{{a, n, d.low(n).words(), api.OK}})
		}
	}
}

func TestPlacesByDigits(t *testing.T) {
	for _, a := range check.Samples() {
		d := digitsOf(a)
		check.Words(t, fmt.Sprintf("Least(%#x)", a), nat.Least(a), d.words())
		check.Same(t, fmt.Sprintf("BitLen(%#x)", a), nat.BitLen(a), len(d))
		check.Same(t, fmt.Sprintf("Twos(%#x)", a), nat.Twos(a), d.twos())
		for i := -70; i < 260; i++ {
			check.Same(t, fmt.Sprintf("Bit(%#x, %d)", a, i), nat.Bit(a, i), d.at(i))
		}
	}
}
