package group_test

import (
	"fmt"
	"slices"
	"strings"
	"testing"

	"trellis/api"
	"trellis/check"
	"trellis/group"
	"trellis/made"
	"trellis/modp"
)

// powers is what Primary answers.
type powers = []api.Power

// powersOf are the powers that a text writes, with blanks between: 2^3, or 5 for 5^1.
func powersOf(text string) powers {
	var all powers
	for word := range strings.FieldsSeq(text) {
		prime, exponent, raised := strings.Cut(word, "^")
		if !raised {
			exponent = "1"
		}
		n := row(prime + " " + exponent)
		all = append(all, api.Power{Prime: n[0].Mag[0], Exp: int(n[1].Mag[0])})
	}
	return all
}

// holdPrimary asks for these powers, and for the same with the factors in another order and in other forms.
func holdPrimary(t *testing.T, factors []api.Int, want powers) {
	t.Helper()
	backward := slices.Clone(factors)
	slices.Reverse(backward)
	for _, list := range [][]api.Int{factors, disguised(factors), backward} {
		got, e := group.Primary(list)
		call := fmt.Sprintf("Primary of %d factors %.200s", len(list), fmt.Sprint(list))
		check.Same(t, call, e, api.OK)
		if !slices.Equal(got, want) {
			t.Errorf("%s: %.300s, want %.300s", call, fmt.Sprint(got), fmt.Sprint(want))
		}
	}
}

// holdNoPrimary asks for an error with nothing beside it, with the factors in both orders.
func holdNoPrimary(t *testing.T, factors []api.Int, want api.Errno) {
	t.Helper()
	backward := slices.Clone(factors)
	slices.Reverse(backward)
	for _, list := range [][]api.Int{factors, backward} {
		got, e := group.Primary(list)
		call := fmt.Sprint("Primary of ", list)
		check.Same(t, call, e, want)
		check.Same(t, call+": how many powers beside the error", len(got), 0)
	}
}

// P22.8, worked out by hand.
func TestPrimary(t *testing.T) {
	for text, want := range map[string]string{
		"": "", "1": "", "1 1 1": "", "2": "2", "3": "3", "4": "2^2", "5": "5", "6": "2 3", "9": "3^2", "25": "5^2", "49": "7^2", "60": "2^2 3 5", "91": "7 13",
		// Equal ones as often as they come, those of one prime by their exponents, primes in their order though they come in another.
		"2 2 2": "2 2 2", "8 2 4 1 16": "2 2^2 2^3 2^4", "7 5 3 2": "2 3 5 7", "9 4 27 2": "2 2^2 3^2 3^3", "6 6": "2 2 3 3", "12 18": "2 2^2 3 3^2", "1024 2 1024": "2 2^10 2^10",
		"101 11 1000003 2": "2 11 101 1000003",
		// Just below the limit: powers, primes, squares of primes, products of two primes near the root, of a little one and a great one.
		"1073741824": "2^30", "1162261467": "3^19", "2147483647": "2147483647", "2147483646": "2 3^2 7 11 31 151 331", "2147483645": "5 19 22605091", "2147483644": "2^2 233 1103 2089", "2147483643": "3 715827881", "2147483629": "2147483629",
		"2147117569": "46337^2", "2146190929": "46327^2", "2146654199": "46327 46337", "2147395600": "2^4 5^2 7^2 331^2", "2141700569": "1289^3", "1073741827 1073741827": "1073741827 1073741827",
		"2147483646 2147483647 1": "2 3^2 7 11 31 151 331 2147483647",
	} {
		holdPrimary(t, row(text), powersOf(want))
	}
}

// P22.8 and R2: a factor below 1 is told ahead of one that is too large, wherever they stand.
func TestPrimaryRefused(t *testing.T) {
	for _, zero := range check.Zeros() {
		holdNoPrimary(t, []api.Int{zero}, api.ErrArg)
		holdNoPrimary(t, []api.Int{num(6), zero, num(4)}, api.ErrArg)
		holdNoPrimary(t, []api.Int{zero, num(1 << 31)}, api.ErrArg)
	}
	for _, low := range []api.Int{num(-1), num(-6), minus(1 << 31), minus(0, 1), minus(5, 0, 0), minus(check.Top, check.Top)} {
		holdNoPrimary(t, []api.Int{low}, api.ErrArg)
		holdNoPrimary(t, []api.Int{num(2), low}, api.ErrArg)
		holdNoPrimary(t, []api.Int{num(1), num(1 << 31), plus(0, 1), low}, api.ErrArg)
	}
	for _, large := range []api.Int{num(1 << 31), num(1<<31 + 1), num(1 << 32), num(1<<32 + 6), plus(check.High), plus(check.Top), plus(0, 1), plus(6, 1), plus(6, 0, 0, 1), plus(1<<31, 0)} {
		holdNoPrimary(t, []api.Int{large}, api.ErrLarge)
		holdNoPrimary(t, []api.Int{num(1), num(6), large}, api.ErrLarge)
	}
}

// fallen are the powers of primes of a number, by a list that says which numbers are primes.
func fallen(n int, isPrime []bool) powers {
	var all powers
	for p := 2; p <= n; p++ {
		exponent := 0
		for ; isPrime[p] && n%p == 0; n /= p {
			exponent++
		}
		if exponent > 0 {
			all = append(all, api.Power{Prime: uint64(p), Exp: exponent})
		}
	}
	return all
}

// P22.8 at all little numbers, alone and all together.
func TestPrimaryOfAllSmall(t *testing.T) {
	const end = 3000
	isPrime := check.Sieve(0, end)
	var factors []api.Int
	var all powers
	for n := 1; n < end; n++ {
		one := fallen(n, isPrime)
		holdPrimary(t, nums(n), one)
		factors, all = append(factors, num(n)), append(all, one...)
	}
	holdPrimary(t, factors, inOrder(all))
}

// inOrder are the powers by their primes, those of one prime by their exponents, by putting each at its place.
func inOrder(all powers) powers {
	var ordered powers
	for _, p := range all {
		place := len(ordered)
		for place > 0 && (ordered[place-1].Prime > p.Prime || ordered[place-1].Prime == p.Prime && ordered[place-1].Exp > p.Exp) {
			place--
		}
		ordered = slices.Insert(ordered, place, p)
	}
	return ordered
}

// P22.8 near the limit: primes by layer 12, whose powers multiply to the factor.
func TestPrimaryOfLarge(t *testing.T) {
	for n := uint64(1<<31 - 300); n < 1<<31; n++ {
		got, e := group.Primary([]api.Int{plus(n)})
		check.Same(t, fmt.Sprint("Primary of ", n), e, api.OK)
		whole := uint64(1)
		for i, p := range got {
			is, e := modp.Prime(p.Prime)
			check.Same(t, fmt.Sprint("Primary of ", n, ": is it a prime"), is && e == api.OK, true)
			check.Same(t, fmt.Sprint("Primary of ", n, ": is its exponent above 0"), p.Exp > 0, true)
			check.Same(t, fmt.Sprint("Primary of ", n, ": do they rise"), i == 0 || got[i-1].Prime < p.Prime, true)
			for range p.Exp {
				whole *= p.Prime
			}
		}
		check.Same(t, fmt.Sprint("the product of Primary of ", n), whole, n)
	}
}

// R5: many primes come in the same order in each call.
func TestPrimaryAgain(t *testing.T) {
	s := made.Source{Seed: 1}
	var factors []api.Int
	for range 200 {
		factors = append(factors, num(1+int(s.Word()%(1<<20))))
	}
	want, e := group.Primary(factors)
	check.Same(t, "Primary of many", e, api.OK)
	for range 20 {
		got, _ := group.Primary(factors)
		check.Same(t, "Primary of many, again", slices.Equal(got, want), true)
	}
	check.Same(t, "is it in the order", slices.Equal(want, inOrder(want)), true)
}
