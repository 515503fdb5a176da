package minors_test

import (
	"fmt"
	"iter"
	"math"
	"slices"
	"sync"
	"testing"

	"trellis/check"
	"trellis/made"
	"trellis/minors"
)

// holdPlaces asks for a list of places.
func holdPlaces(t *testing.T, call string, got, want []int) {
	t.Helper()
	if !slices.Equal(got, want) {
		t.Errorf("%s: %v, want %v", call, got, want)
	}
}

// holdGiven asks for these lists, and spoils each as soon as it is given.
func holdGiven(t *testing.T, call string, sets iter.Seq[[]int], want [][]int) {
	t.Helper()
	i := 0
	for set := range sets {
		if i < len(want) {
			holdPlaces(t, fmt.Sprint(call, " number ", i), set, want[i])
		}
		spoil(set)
		i++
	}
	check.Same(t, call+": how many", i, len(want))
}

// spoil writes over a list of places, spare room included.
func spoil(places []int) {
	places = places[:cap(places)]
	for i := range places {
		places[i] = -7
	}
}

// holdSets asks Sets for these lists, and for the same when it is gone through again.
func holdSets(t *testing.T, n, k int, want [][]int) {
	t.Helper()
	sets := minors.Sets(n, k)
	if sets == nil {
		t.Fatalf("Sets(%d, %d) is nil", n, k)
	}
	for range 3 {
		holdGiven(t, fmt.Sprintf("Sets(%d, %d)", n, k), sets, want)
	}
}

// P14.1 for all small numbers.
func TestSets(t *testing.T) {
	for n := range 11 {
		for k := range n + 1 {
			holdSets(t, n, k, made.Choices(first(n), k))
		}
	}
	for _, c := range [][2]int{{64, 0}, {64, 1}, {64, 2}, {64, 62}, {64, 63}, {64, 64}, {63, 62}, {30, 3}, {20, 16}} {
		holdSets(t, c[0], c[1], made.Choices(first(c[0]), c[1]))
	}
}

// P14.1: where there are no choices nothing is given, at the ends of the numbers too.
func TestNoSets(t *testing.T) {
	for _, n := range []int{math.MinInt, math.MinInt + 1, -65, -2, -1, 0, 1, 2, 63, 64, 65, 66, 128, 1 << 32, math.MaxInt - 1, math.MaxInt} {
		for _, k := range []int{math.MinInt, math.MinInt + 1, -65, -2, -1, 0, 1, 2, 63, 64, 65, 66, 128, 1 << 32, math.MaxInt - 1, math.MaxInt} {
			if n < 0 || n > 64 || k < 0 || k > n {
				holdSets(t, n, k, nil)
			}
		}
	}
}

// beginning are as many of the first lists as asked for; the loop is left after the last of them.
func beginning(sets iter.Seq[[]int], count int) (all [][]int) {
	for set := range sets {
		all = append(all, set)
		if len(all) == count {
			break
		}
	}
	return all
}

// P14.1: nothing is laid ahead: of more choices than memory would hold the first few come at once.
func TestSetsOneByOne(t *testing.T) {
	for k := 2; k < 63; k++ {
		sets := minors.Sets(64, k)
		for range 2 {
			for i, set := range beginning(sets, 1000) {
				if i <= 64-k {
					want := append(first(k-1), k-1+i)
					holdPlaces(t, fmt.Sprintf("Sets(64, %d) number %d", k, i), set, want)
				}
			}
		}
	}
}

// P14.1: each next list is the next one in dictionary order, far into many of them too.
func TestSetsFarOn(t *testing.T) {
	before := first(20)
	count := 0
	for set := range minors.Sets(25, 20) {
		if count > 0 && slices.Compare(before, set) >= 0 {
			t.Fatalf("%v follows %v", set, before)
		}
		if set[0] < 0 || set[19] > 24 || slices.ContainsFunc(first(19), func(i int) bool { return set[i] >= set[i+1] }) {
			t.Fatalf("%v is no choice", set)
		}
		before = set
		count++
	}
	check.Same(t, "how many choices of 20 out of 25", count, 53130)
}

// R6: it stops at once when the loop is left, wherever that is, and begins anew with the next loop.
func TestSetsStop(t *testing.T) {
	for _, c := range [][2]int{{4, 2}, {5, 0}, {0, 0}, {3, 3}} {
		all := made.Choices(first(c[0]), c[1])
		sets := minors.Sets(c[0], c[1])
		for count := 1; count <= len(all)+1; count++ {
			asked := 0
			sets(func(set []int) bool {
				holdPlaces(t, fmt.Sprint("Sets", c), set, all[asked])
				asked++
				return asked < count
			})
			check.Same(t, "how many were given", asked, min(count, len(all)))
		}
	}
}

// R6: one loop goes within another, each from the beginning; two go by turns.
func TestSetsNested(t *testing.T) {
	sets, all := minors.Sets(5, 3), made.Choices(first(5), 3)
	i := 0
	for set := range sets {
		holdPlaces(t, "outside", set, all[i])
		holdGiven(t, "inside", sets, all)
		i++
	}
	check.Same(t, "how many outside", i, len(all))
	one, stopOne := iter.Pull(sets)
	defer stopOne()
	other, stopOther := iter.Pull(sets)
	defer stopOther()
	for _, want := range all {
		for _, next := range []func() ([]int, bool){one, other} {
			set, ok := next()
			check.Same(t, "is there one more", ok, true)
			holdPlaces(t, "by turns", set, want)
			spoil(set)
		}
	}
}

// R6: several go over it at a time, and write into the lists that they are given.
func TestSetsAtATime(t *testing.T) {
	sets, want := minors.Sets(12, 6), made.Choices(first(12), 6)
	answers := make([][][]int, 8)
	var all sync.WaitGroup
	for w := range answers {
		all.Go(func() {
			for range 5 {
				answers[w] = nil
				for set := range sets {
					answers[w] = append(answers[w], slices.Clone(set))
					spoil(set)
				}
			}
		})
	}
	all.Wait()
	for w, got := range answers {
		check.Same(t, fmt.Sprint("is it the same for worker ", w), slices.EqualFunc(got, want, slices.Equal), true)
	}
}

// R4: each list is new memory, spare room included.
func TestSetsOwnMemory(t *testing.T) {
	for _, c := range [][2]int{{6, 1}, {6, 3}, {6, 5}, {6, 6}, {6, 0}} {
		all := made.Choices(first(c[0]), c[1])
		sets := minors.Sets(c[0], c[1])
		kept := slices.Collect(sets)
		again := slices.Collect(sets)
		for i := range kept {
			holdPlaces(t, "kept", kept[i], all[i])
			spoil(kept[i])
			holdPlaces(t, "kept another time", again[i], all[i])
		}
	}
}
