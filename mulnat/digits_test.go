package mulnat_test

import (
	"fmt"
	"math/bits"
	"testing"
	"time"

	"trellis/api"
	"trellis/check"
	"trellis/mulnat"
)

// digits is a natural by its digits in base 2^16, the lowest first, so that no product of two digits wraps a word.
// What the calls answer is held against schoolbook reckoning with these, a digit at a time.
type digits []uint64

const base = 1 << 16

func digitsOf(a list) digits {
	var d digits
	for _, w := range a {
		for range 4 {
			d = append(d, w%base)
			w /= base
		}
	}
	return d
}

// words is the list of d in least form.
func (d digits) words() list {
	a := make(list, (len(d)+3)/4)
	for i, x := range d {
		a[i/4] += x << (16 * (i % 4))
	}
	for len(a) > 0 && a[len(a)-1] == 0 {
		a = a[:len(a)-1]
	}
	return a
}

func (d digits) add(f digits) digits {
	sum := make(digits, max(len(d), len(f))+1)
	copy(sum, d)
	for i, x := range f {
		sum[i] += x
	}
	return sum.carried()
}

func (d digits) mul(f digits) digits {
	product := make(digits, len(d)+len(f)+1)
	for i, x := range d {
		for j, y := range f {
			product[i+j] += x * y
		}
		product.carried()
	}
	return product
}

// carried brings each digit below the base, in place.
func (d digits) carried() digits {
	var carry uint64
	for i, x := range d {
		x += carry
		d[i] = x % base
		carry = x / base
	}
	return d
}

// low is the lowest n binary digits.
func (d digits) low(n int) digits {
	rest := make(digits, min(len(d), n/16+1))
	copy(rest, d)
	if n/16 < len(rest) {
		rest[n/16] %= 1 << (n % 16)
	}
	return rest
}

func TestPairsByDigits(t *testing.T) {
	lists := check.Samples()
	for _, a := range lists {
		d := digitsOf(a)
		for _, b := range lists {
			product := d.mul(digitsOf(b))
			check.Words(t, fmt.Sprintf("Mul(%#x, %#x)", a, b), mulnat.Mul(a, b), product.words())
			check.Words(t, fmt.Sprintf("Product(%#x, %#x)", a, b), mulnat.Product(a, b), product.words())
			check.Words(t, fmt.Sprintf("MulAdd(%#x, %#x, %#x)", a, b, a), mulnat.MulAdd(a, b, a), product.add(d).words())
			for _, n := range []int{0, 1, 15, 63, 64, 65, 100, 127, 128, 129, 192, 300, 383, 384, 1000} {
				call := fmt.Sprintf("MulLow(%#x, %#x, %d)", a, b, n)
				low, e := mulnat.MulLow(a, b, n)
				check.Words(t, call, low, product.low(n).words())
				check.Same(t, call, e, api.OK)
			}
			if len(b) == 1 {
				check.Words(t, fmt.Sprintf("Word(%#x, %#x)", a, b[0]), mulnat.Word(a, b[0]), product.words())
			}
		}
		check.Words(t, fmt.Sprintf("Square(%#x)", a), mulnat.Square(a), d.mul(d).words())
	}
}

func TestTriplesByDigits(t *testing.T) {
	var lists []list
	for _, a := range check.Samples() {
		if len(a) < 3 {
			lists = append(lists, a)
		}
	}
	for _, a := range lists {
		for _, b := range lists {
			product := digitsOf(a).mul(digitsOf(b))
			for _, c := range lists {
				d := digitsOf(c)
				check.Words(t, fmt.Sprintf("Product(%#x, %#x, %#x)", a, b, c), mulnat.Product(a, b, c), product.mul(d).words())
				check.Words(t, fmt.Sprintf("MulAdd(%#x, %#x, %#x)", a, b, c), mulnat.MulAdd(a, b, c), product.add(d).words())
			}
		}
	}
}

func TestLongFactorsByDigits(t *testing.T) {
	pairs := [][2]int{{1, 300}, {63, 64}, {64, 64}, {64, 65}, {64, 127}, {64, 128}, {64, 129}, {65, 130}, {65, 300}, {100, 100}, {127, 128}, {129, 129}, {150, 290}, {200, 257}, {300, 300}}
	for i, p := range pairs {
		a, b := check.Mixed(p[0], uint64(i)), check.Mixed(p[1], uint64(1000+i))
		product := digitsOf(a).mul(digitsOf(b))
		check.Words(t, fmt.Sprintf("Mul of %d and %d words", p[0], p[1]), mulnat.Mul(a, b), product.words())
		check.Words(t, fmt.Sprintf("Mul of %d and %d words", p[1], p[0]), mulnat.Mul(b, a), product.words())
		check.Words(t, fmt.Sprintf("MulAdd of %d and %d words", p[0], p[1]), mulnat.MulAdd(a, b, b), product.add(digitsOf(b)).words())
		check.Words(t, fmt.Sprintf("Product of %d and %d words", p[0], p[1]), mulnat.Product(a, list{1}, b), product.words())
		check.Words(t, fmt.Sprintf("Square of %d words", p[1]), mulnat.Square(b), digitsOf(b).mul(digitsOf(b)).words())
		n := 64*p[0] + 7
		low, e := mulnat.MulLow(a, b, n)
		check.Words(t, fmt.Sprintf("MulLow of %d and %d words", p[0], p[1]), low, product.low(n).words())
		check.Same(t, "MulLow", e, api.OK)
	}
}

// pairByPair takes one product of words for each pair of a word of a and a word of b, and answers the product's highest word.
func pairByPair(a, b list) uint64 {
	product := make(list, len(a)+len(b))
	for i, w := range b {
		var carry uint64
		for j, v := range a {
			up, down := bits.Mul64(v, w)
			down, over := bits.Add64(down, product[i+j], 0)
			up += over
			product[i+j], over = bits.Add64(down, carry, 0)
			carry = up + over
		}
		product[i+len(a)] = carry
	}
	return product[len(product)-1]
}

// The chapter's limits: a product of long factors takes many fewer products of words than one for each pair of their words.
// Mul takes about a quarter of the time of those here; half of it is let pass, in one of five tries, so that a busy machine does not matter.
func TestLongFactorsTakeFewerProducts(t *testing.T) {
	const n = 16384
	a, b := check.Mixed(n, 1), check.Mixed(n, 2)
	for range 5 {
		start := time.Now()
		product := mulnat.Mul(a, b)
		byHalves := time.Since(start)
		start = time.Now()
		highest := pairByPair(a, b)
		byPairs := time.Since(start)
		t.Logf("%v by Mul, %v pair by pair", byHalves, byPairs)
		if product[len(product)-1] != highest {
			t.Fatal("Mul and the product pair by pair differ")
		}
		if byHalves < byPairs/2 {
			return
		}
	}
	t.Errorf("Mul of two factors of %d words takes about as long as a product for each pair of words", n)
}
