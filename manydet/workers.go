package manydet

import "sync"

// task is a prime, and its place in the list that it comes from.
type task struct {
	place int
	prime uint64
}

// byPrime is what reckon makes of each of the primes, in their order, by so many workers beside one another.
func byPrime[Part any](ps []uint64, workers int, reckon func(p uint64) Part) []Part {
	parts := make([]Part, len(ps))
	tasks := make(chan task)
	var all sync.WaitGroup
	for range min(workers, len(ps)) {
		all.Add(1)
		go func() {
			defer all.Done()
			for t := range tasks {
				// The place is the prime's, whichever worker took it and whenever it is done: so no two workers write to the same one, and the parts are in order.
				parts[t.place] = reckon(t.prime)
			}
		}()
	}
	for place, p := range ps {
		tasks <- task{place, p}
	}
	close(tasks)
	all.Wait()
	return parts
}
