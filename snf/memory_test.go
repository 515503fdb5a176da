package snf_test

import (
	"slices"
	"testing"

	"trellis/api"
	"trellis/check"
	"trellis/made"
	"trellis/snf"
)

// samples are matrices of all ranks and many shapes, and some of their forms, in least form and not.
func samples() []api.Mat {
	all := made.Samples()
	for _, text := range []string{"4 0; 0 6", "2 0 0; 0 6 0", "8 0 0; 0 4 0; 0 0 2", "2 4; 6 8", "0 0; 4 0; 0 6", "1 2 3; 4 5 6; 7 8 9"} {
		all = append(all, mx(text), made.Disguised(mx(text)))
	}
	return all
}

// listsOf are the lists of integers of an answer of Full.
func listsOf(a api.Mat) [][]api.Int {
	full, _ := snf.Full(a)
	return [][]api.Int{full.D.At, full.U.At, full.V.At, full.Ui.At, full.Vi.At}
}

// R4: what is handed in stays as it is, spare room included, and an answer has memory of its own, its spare room too.
func TestMemory(t *testing.T) {
	calls := map[string]func(a, b api.Mat) []api.Int{
		"Form": func(a, b api.Mat) []api.Int {
			form, _ := snf.Form(a)
			return form.At
		},
		"Full": func(a, b api.Mat) []api.Int {
			return slices.Concat(listsOf(a)...)
		},
		"Factors": func(a, b api.Mat) []api.Int {
			factors, _ := snf.Factors(a)
			return factors
		},
		"Divisors": func(a, b api.Mat) []api.Int {
			divisors, _ := snf.Divisors(a)
			return divisors
		},
		"Chain": func(a, b api.Mat) []api.Int {
			return snf.Chain(a.At)
		},
		"Same": func(a, b api.Mat) []api.Int {
			is, _ := snf.Same(a, b)
			return toldFlag(is)
		},
		"Same, the other first": func(a, b api.Mat) []api.Int {
			is, _ := snf.Same(b, a)
			return toldFlag(is)
		},
	}
	for name, call := range takers() {
		calls[name+", all of it"] = func(a, b api.Mat) []api.Int {
			got, _ := call(a)
			return got
		}
		calls[name+" of what is not sound"] = func(a, b api.Mat) []api.Int {
			a.Rows++
			a.Cols++
			got, _ := call(a)
			return got
		}
	}
	check.MatMemory(t, calls, samples())
}

// R4: lists of Chain, of all kinds, some of whose integers are answered as they are.
func TestMemoryOfChain(t *testing.T) {
	lists := [][]api.Int{nil, nums(7), nums(-7), nums(0, 0), nums(1, 2, 4, 8), nums(8, 4, 2, 1), nums(4, 6, 9, 0, -10), {plus(6, 0), minus(0, 0), minus(4, 0, 0)}, check.Integers()[:20], check.Zeros()}
	check.ListMemory(t, map[string]func(list []api.Int) []api.Int{"Chain": snf.Chain}, lists)
	same := plus(6, 0)
	got := snf.Chain([]api.Int{same, same, same})
	check.Apart(t, "Chain of one integer three times", same.Mag, got[0].Mag, got[1].Mag, got[2].Mag)
	check.Ints(t, "Chain of one integer three times", got, nums(6, 6, 6))
}

// R4: no two lists of one answer share memory, and no two answers.
func TestMemoryOfLists(t *testing.T) {
	for _, a := range samples() {
		one, other := listsOf(a), listsOf(a)
		var want [][]api.Int
		for _, list := range other {
			want = append(want, check.Roomy(list))
		}
		for i := range one {
			check.Spoil(one[i])
			for j := i + 1; j < len(one); j++ {
				check.Ints(t, of("a list beside one that was written over", a), one[j], want[j])
			}
			check.Ints(t, of("the list of another answer", a), other[i], want[i])
		}
	}
}

// R4: entries that have the same words.
func TestOverlap(t *testing.T) {
	words := []uint64{4, 0, 6, 9, 0}
	four, six, nine := plus(words[:2]...), plus(words[2:3]...), plus(words[3:]...)
	a := api.Mat{Rows: 2, Cols: 2, At: []api.Int{four, six, six, nine}}
	check.Mat(t, of("D of Full", a), holdAll(t, a), mx("1 0; 0 0"))
	holdChain(t, a.At, nums(1, 6, 6, 36))
	holdSame(t, a, mx("1 2; 2 4"), true)
	twice := api.Mat{Rows: 2, Cols: 2, At: []api.Int{six, four, four, six}}
	check.Mat(t, of("D of Full", twice), holdAll(t, twice), mx("2 0; 0 10"))
	check.Words(t, "what was handed in", words, []uint64{4, 0, 6, 9, 0})
}
