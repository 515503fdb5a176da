package manydet

// ByPrime is byPrime with words as parts.
func ByPrime(ps []uint64, workers int, reckon func(p uint64) uint64) []uint64 {
	return byPrime(ps, workers, reckon)
}
