package manydet_test

import (
	"fmt"
	"runtime"
	"slices"
	"sync"
	"sync/atomic"
	"testing"
	"time"

	"trellis/api"
	"trellis/check"
	"trellis/made"
	"trellis/manydet"
)

// asked are calls and matrices for which many primes are asked, or few.
func asked() (map[string]taker, []api.Mat) {
	ps, _ := manydet.Primes(20)
	calls := takers()
	calls["Residues of many"] = residuer(slices.Concat(ps, primes(), ps)...)
	calls["Residues of no prime"] = residuer(append(ps, 9)...)
	matrices := made.Samples()
	for words := range 3 {
		s := &made.Source{Words: words, Seed: uint64(words)}
		matrices = append(matrices, s.Whole(6, 6), s.OfRank(7, 7, 5), s.Whole(9, 4), s.OfRank(4, 9, 3))
	}
	matrices = append(matrices, (&made.Source{Seed: 1}).Whole(30, 30))
	return calls, matrices
}

// P15.6.
func TestWorkers(t *testing.T) {
	calls, matrices := asked()
	for name, call := range calls {
		for _, a := range matrices {
			want, wantErr := call(a, 1)
			for _, w := range all() {
				got, e := call(a, w)
				check.Same(t, of(name, a, w), e, wantErr)
				check.Ints(t, of(name, a, w), got, want)
			}
		}
	}
}

// P15.3 and P15.6: lists of each length around the numbers of workers, the same prime again and again among others.
func TestLengths(t *testing.T) {
	ps, _ := manydet.Primes(20)
	a := mx("2 -7 1; 5 11 -3; 8 0 13")
	det := made.Det(a)
	for length := range 40 {
		var list []uint64
		for i := range length {
			list = append(list, []uint64{ps[i%20], 2, 3, ps[0]}[i%4])
		}
		holdResidues(t, a, list, residuesOf(det, list), all()...)
	}
	// In no order at all, and longer than any list of Primes.
	var long []uint64
	for i := range 3000 {
		long = append(long, []uint64{101, 2, 65537, 7, 46337, 3, 99991}[i*i%7])
	}
	holdResidues(t, a, long, residuesOf(det, long), few()...)
	holdResidues(t, a, nil, nil, all()...)
	holdResidues(t, a, []uint64{}, nil, all()...)
}

// holdBeside asks for just so many workers beside one another: none goes on with its prime until all have one.
func holdBeside(t *testing.T, workers, rounds int) {
	t.Helper()
	call := fmt.Sprint(workers, " workers, ", rounds, " rounds")
	var ps []uint64
	for i := range workers * rounds {
		ps = append(ps, uint64(7*i))
	}
	arrived := make(chan bool, len(ps))
	var busy, most atomic.Int64
	reckon := func(p uint64) uint64 {
		now := busy.Add(1)
		defer busy.Add(-1)
		for before := most.Load(); now > before && !most.CompareAndSwap(before, now); before = most.Load() {
		}
		arrived <- true
		for wait := 0; len(arrived) < workers && wait < 3000; wait++ {
			time.Sleep(time.Millisecond)
		}
		return p + 1
	}
	got := manydet.ByPrime(ps, workers, reckon)
	if most.Load() != int64(workers) {
		t.Fatalf("%s: %d at a time", call, most.Load())
	}
	for i, p := range ps {
		check.Same(t, call+": part", got[i], p+1)
	}
}

// The workers that are asked for are there, and no more of them.
func TestWorkersBeside(t *testing.T) {
	for _, w := range all() {
		for rounds := 1; rounds < 4; rounds++ {
			holdBeside(t, w, rounds)
		}
	}
}

// running is how many goroutines there are, when those that have nothing left to do have gone.
func running(most int) int {
	for range 1000 {
		if runtime.NumGoroutine() <= most {
			break
		}
		time.Sleep(time.Millisecond)
	}
	return runtime.NumGoroutine()
}

// All workers have ended when a call has answered, beside an error too.
func TestWorkersEnd(t *testing.T) {
	before := runtime.NumGoroutine()
	calls, matrices := asked()
	for name, call := range calls {
		for _, a := range matrices {
			call(a, 16)
			if now := running(before); now > before {
				t.Fatalf("%s: %d goroutines, %d before the call", of(name, a), now, before)
			}
		}
	}
}

// R5: calls that are made at a time, with the same arguments, do not meet.
func TestAtATime(t *testing.T) {
	calls, matrices := asked()
	for name, call := range calls {
		want := make([][]api.Int, len(matrices))
		for i, a := range matrices {
			want[i], _ = call(a, 1)
		}
		var callers sync.WaitGroup
		for c := range 8 {
			callers.Go(func() {
				for i, a := range matrices {
					got, _ := call(a, 1+(c+i)%16)
					check.Ints(t, fmt.Sprint(of(name, a), " beside others"), got, want[i])
				}
			})
		}
		callers.Wait()
	}
}
