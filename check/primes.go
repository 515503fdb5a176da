package check

// Sieve says of each number from start on, below end, if it is a prime: all multiples of others are crossed out. end is at most 2^31.
func Sieve(start, end int) []bool {
	const root = 46341
	var crossed [root]bool
	prime := make([]bool, end-start)
	for i := range prime {
		prime[i] = start+i > 1
	}
	for d := 2; d < root; d++ {
		if crossed[d] {
			continue
		}
		for m := d * d; m < root; m += d {
			crossed[m] = true
		}
		for m := max(d*d, (start+d-1)/d*d); m < end; m += d {
			prime[m-start] = false
		}
	}
	return prime
}
