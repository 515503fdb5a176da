package divnat

import (
	"trellis/mulnat"
	"trellis/nat"
)

// headBits is how many of the highest binary digits of two numbers the steps towards their divisor are first reckoned with.
// It leaves room in an int64 for all that shares makes of them.
const headBits = 60

// share is how often each of two numbers goes into a third one. If one of the two counts is above 0, the other is not.
type share struct{ a, b int64 }

// Gcd: the greatest common divisor.
func Gcd(a, b []uint64) []uint64 {
	a, b = nat.Least(a), nat.Least(b)
	if nat.Cmp(a, b) < 0 {
		a, b = b, a
	}
	for len(b) > 1 {
		a, b = nearer(a, b)
	}
	if len(b) == 0 {
		return a
	}
	_, rest, _ := Word(a, b[0])
	return []uint64{wordGcd(b[0], rest)}
}

// nearer is two lesser numbers with the same common divisors, for a at least b and b longer than a word.
func nearer(a, b []uint64) ([]uint64, []uint64) {
	places := nat.BitLen(a) - headBits
	first, second := shares(head(a, places), head(b, places))
	if second.a == 0 {
		// The heads don't tell even the first quotient.
		_, rest, _ := DivMod(a, b)
		return b, rest
	}
	return first.of(a, b), second.of(a, b)
}

// head is a without its lowest binary digits, as many as places.
func head(a []uint64, places int) int64 {
	high, _ := nat.Shr(a, places)
	if len(high) == 0 {
		return 0
	}
	return int64(high[0])
}

// shares divides two numbers, goes on with divisor and rest, and so on, as far as their heads x and y tell all the quotients;
// it answers what the last two rests are made of. It is Lehmer's way: many steps of long numbers for the price of one.
func shares(x, y int64) (first, second share) {
	first, second = share{1, 0}, share{0, 1}
	for y+second.a != 0 && y+second.b != 0 {
		// Each of the two numbers is its head and less than 1 more, so a rest with the share s of them lies between x + s.a and x + s.b,
		// x being made of the heads alike. These two quotients are the ends of what the quotient of the rests can be: if they are the same, it is known.
		quotient := (x + first.a) / (y + second.a)
		if quotient != (x+first.b)/(y+second.b) {
			break
		}
		x, y = y, x-quotient*y
		first, second = second, share{first.a - quotient*second.a, first.b - quotient*second.b}
	}
	return first, second
}

// of is the number that has the share s of a and b.
func (s share) of(a, b []uint64) []uint64 {
	if s.b > 0 {
		a, b, s.a, s.b = b, a, s.b, s.a
	}
	// A rest is never below 0, so the difference has no error.
	rest, _ := nat.Sub(mulnat.Word(a, uint64(s.a)), mulnat.Word(b, uint64(-s.b)))
	return rest
}

// wordGcd is the greatest common divisor of two words.
func wordGcd(x, y uint64) uint64 {
	for y != 0 {
		x, y = y, x%y
	}
	return x
}
