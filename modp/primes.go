package modp

import "trellis/api"

// Prime: is n a prime?
func Prime(n uint64) (bool, api.Errno) {
	if n >= api.PrimeTop {
		return false, api.ErrLarge
	}
	return isPrime(n), api.OK
}

// Below: the greatest prime below n.
func Below(n uint64) (uint64, api.Errno) {
	if n > api.PrimeTop {
		return 0, api.ErrLarge
	}
	for n > 2 {
		n--
		if isPrime(n) {
			return n, api.OK
		}
	}
	return 0, api.ErrNone
}

// isPrime tries the odd divisors one by one up to n's root: below PrimeTop these are few, and nothing rests on a rule that holds for some numbers alone.
func isPrime(n uint64) bool {
	if n%2 == 0 {
		return n == 2
	}
	for d := uint64(3); d*d <= n; d += 2 {
		if n%d == 0 {
			return false
		}
	}
	return n > 1
}
