package zint_test

import (
	"math/bits"

	"trellis/api"
)

// complement is an integer modulo 2^(64 places), those below zero from the top down, as processors hold them.
// It knows no case of signs: what the calls answer is held against reckoning with these.
type complement [places]uint64

// places is how many words a complement has: more than any sum or product in the tests needs.
const places = 32

func complementOf(a api.Int) complement {
	var x complement
	copy(x[:], a.Mag)
	if a.Neg {
		return x.negated()
	}
	return x
}

// integer is the integer of x in least form.
func (x complement) integer() api.Int {
	neg := x[places-1]>>63 == 1
	if neg {
		x = x.negated()
	}
	n := places
	for n > 0 && x[n-1] == 0 {
		n--
	}
	return api.Int{Neg: neg, Mag: x[:n]}
}

func (x complement) negated() complement {
	carry := uint64(1)
	for i, w := range x {
		x[i], carry = bits.Add64(^w, 0, carry)
	}
	return x
}

func (x complement) plus(y complement) complement {
	var carry uint64
	for i, w := range y {
		x[i], carry = bits.Add64(x[i], w, carry)
	}
	return x
}

func (x complement) minus(y complement) complement {
	return x.plus(y.negated())
}

func (x complement) times(y complement) complement {
	var product complement
	for i, v := range x {
		var carry uint64
		for j, w := range y[:places-i] {
			high, low := bits.Mul64(v, w)
			low, over := bits.Add64(low, carry, 0)
			high += over
			product[i+j], over = bits.Add64(product[i+j], low, 0)
			carry = high + over
		}
	}
	return product
}

// sign is -1, 0 or 1.
func (x complement) sign() int {
	switch {
	case x[places-1]>>63 == 1:
		return -1
	case x == complement{}:
		return 0
	default:
		return 1
	}
}
