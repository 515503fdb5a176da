package hnf_test

import (
	"slices"
	"testing"

	"trellis/api"
	"trellis/check"
	"trellis/hnf"
	"trellis/made"
)

// samples are matrices of all ranks and many shapes, and their forms, in least form and not.
func samples() []api.Mat {
	var all []api.Mat
	for i, a := range made.Samples() {
		h, _ := hnf.Form(a)
		if i%2 == 0 {
			h = made.Disguised(h)
		}
		all = append(all, a, h)
	}
	return append(all, made.Disguised(mx("2 3 0; 0 5 7; 0 0 0")), mx("1 0; 0 1; 0 0"))
}

// rowOf are as many numbers of b as a has columns, or fewer where there are not so many.
func rowOf(a, b api.Mat) []api.Int {
	return b.At[:min(a.Cols, len(b.At))]
}

// R4: what is handed in stays as it is, spare room included, and an answer has memory of its own, its spare room too.
func TestMemory(t *testing.T) {
	calls := map[string]func(a, b api.Mat) []api.Int{
		"Form": func(a, b api.Mat) []api.Int {
			form, _ := hnf.Form(a)
			return form.At
		},
		"Basis": func(a, b api.Mat) []api.Int {
			basis, _ := hnf.Basis(a)
			return basis.At
		},
		"Full": func(a, b api.Mat) []api.Int {
			full, _ := hnf.Full(a)
			return slices.Concat(full.H.At, full.U.At, full.W.At)
		},
		"Reduce": func(a, b api.Mat) []api.Int {
			rest, c, _ := hnf.Reduce(a, rowOf(a, b))
			return slices.Concat(rest, c)
		},
		"Reduce, the rest": func(a, b api.Mat) []api.Int {
			rest, _, _ := hnf.Reduce(a, rowOf(a, b))
			return rest
		},
		"Reduce, the multiples": func(a, b api.Mat) []api.Int {
			_, c, _ := hnf.Reduce(a, rowOf(a, b))
			return c
		},
		"Reduce of a row of its own": func(a, b api.Mat) []api.Int {
			rest, c, _ := hnf.Reduce(a, rowOf(a, a))
			return slices.Concat(rest, c)
		},
		"Reduce by nothing": func(a, b api.Mat) []api.Int {
			v := b.At[:min(len(b.At), 64)]
			rest, _, _ := hnf.Reduce(api.Mat{Cols: len(v)}, v)
			return rest
		},
		"Insert": func(a, b api.Mat) []api.Int {
			basis, _ := hnf.Insert(a, rowOf(a, b))
			return basis.At
		},
		"Insert of a row of its own": func(a, b api.Mat) []api.Int {
			basis, _ := hnf.Insert(a, rowOf(a, a))
			return basis.At
		},
		"Insert of zeros": func(a, b api.Mat) []api.Int {
			basis, _ := hnf.Insert(a, make([]api.Int, a.Cols))
			return basis.At
		},
		"Insert into nothing": func(a, b api.Mat) []api.Int {
			v := b.At[:min(len(b.At), 64)]
			basis, _ := hnf.Insert(api.Mat{Cols: len(v)}, v)
			return basis.At
		},
	}
	for name, call := range takers() {
		calls[name+", all of it"] = func(a, b api.Mat) []api.Int {
			got, _ := call(a)
			return got
		}
		calls[name+" of what is not sound"] = func(a, b api.Mat) []api.Int {
			a.Rows++
			a.Cols++
			got, _ := call(a)
			return got
		}
	}
	check.MatMemory(t, calls, samples())
}

// R4: v's own list stays as it is, where it has room for more.
func TestMemoryOfRoomyRow(t *testing.T) {
	for _, h := range []api.Mat{mx("2 3; 0 5"), mx("0 0; 0 0"), mx("0x2"), mx("2 7; 0 5"), mx("0 3")} {
		v := check.Roomy(nums(-7, 4))
		want := check.Roomy(nums(-7, 4))
		hnf.Reduce(h, v)
		hnf.Insert(h, v)
		check.Ints(t, of("what was handed in and its room", h), v[:cap(want)], want[:cap(want)])
	}
}

// R4: no two lists of one answer share memory, and no two answers.
func TestMemoryOfLists(t *testing.T) {
	for _, a := range samples() {
		answer := func() [][]api.Int {
			full, _ := hnf.Full(a)
			rest, c, _ := hnf.Reduce(full.H, check.Filled(1, a.Cols, nums(5, -8)).At)
			return [][]api.Int{full.H.At, full.U.At, full.W.At, rest, c}
		}
		one, other := answer(), answer()
		var want [][]api.Int
		for _, list := range other {
			want = append(want, check.Roomy(list))
		}
		for i := range one {
			check.Spoil(one[i])
			for j := i + 1; j < len(one); j++ {
				check.Ints(t, of("a list beside one that was written over", a), one[j], want[j])
			}
			check.Ints(t, of("the list of another answer", a), other[i], want[i])
		}
	}
}

// R4: the list of pivots has memory of its own.
func TestMemoryOfPivots(t *testing.T) {
	for _, text := range forms() {
		one, _ := hnf.Pivots(mx(text))
		want := slices.Clone(one)
		one = one[:cap(one)]
		for i := range one {
			one[i] = -7
		}
		holdPivots(t, mx(text), want)
	}
}

// R4: entries that have the same words.
func TestOverlap(t *testing.T) {
	words := []uint64{4, 0, 6, 9, 0}
	four, six, nine := plus(words[:2]...), plus(words[2:3]...), plus(words[3:]...)
	a := api.Mat{Rows: 2, Cols: 2, At: []api.Int{four, six, six, nine}}
	holdForm(t, a, mx("2 3; 0 0"))
	full := holdFull(t, a)
	check.Mat(t, "U of Full", full.U, mx("2 -1; 3 -2"))
	h := api.Mat{Rows: 1, Cols: 2, At: a.At[:2]}
	holdReduce(t, h, a.At[2:], nums(2, 3), nums(1))
	holdReduce(t, h, a.At[:2], nums(0, 0), nums(1))
	holdInsert(t, h, a.At[2:], mx("2 3"))
	holdInsert(t, h, a.At[1:3], mx("2 0; 0 6"))
	check.Words(t, "what was handed in", words, []uint64{4, 0, 6, 9, 0})
}
