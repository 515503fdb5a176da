package minors

import (
	"iter"
	"slices"

	"trellis/api"
)

// Sets: the rising lists of k numbers from 0 to n - 1, in the order of a dictionary.
func Sets(n, k int) iter.Seq[[]int] {
	return func(yield func([]int) bool) {
		if n > api.MaxDim || k < 0 || k > n {
			return
		}
		set := firstPlaces(k)
		for more := true; more; more = step(set, n) {
			// A copy is given away, so that whoever writes into it changes nothing here.
			if !yield(slices.Clone(set)) {
				return
			}
		}
	}
}

// firstPlaces are the places 0 to k - 1.
func firstPlaces(k int) []int {
	places := make([]int, k)
	for i := range places {
		places[i] = i
	}
	return places
}

// step makes of a choice out of n the next one; it says false where that was the last.
func step(set []int, n int) bool {
	// Each number has its greatest value where it and all behind it are the last ones of all.
	last := n - 1
	for i := len(set) - 1; i >= 0; i-- {
		if set[i] < last {
			for value := set[i] + 1; i < len(set); i++ {
				set[i] = value
				value++
			}
			return true
		}
		last--
	}
	return false
}

// choose is the number of choices of k out of n, which is at most MaxDim.
func choose(n, k int) uint64 {
	if k < 0 || k > n {
		return 0
	}
	// counts[i] is the number of choices of i out of those taken so far. Only sums are made, and each of them is such a number: the greatest, of 32 out of 64, fits in a word.
	counts := make([]uint64, k+1)
	counts[0] = 1
	for range n {
		for i := k; i > 0; i-- {
			counts[i] += counts[i-1]
		}
	}
	return counts[k]
}
