package modhnf_test

import (
	"testing"

	"trellis/api"
	"trellis/check"
	"trellis/made"
	"trellis/modhnf"
	"trellis/zint"
)

// samples are matrices of all ranks and many shapes, in least form and not.
func samples() []api.Mat {
	return append(made.Samples(), made.Disguised(mx("2 3 0; 0 5 7; 0 0 0")), mx("4 0; 0 6; 2 3"), mx("0 4 6 1; 0 6 9 1"), made.Disguised(mx("1 2 3; 4 5 6; 7 8 9")))
}

// R4: what is handed in stays as it is, spare room included, and an answer has memory of its own, its spare room too.
func TestMemory(t *testing.T) {
	// numberOf is an entry that is not 0, where there is one.
	numberOf := func(b api.Mat) api.Int {
		for _, n := range b.At {
			if zint.Sign(n) != 0 {
				return n
			}
		}
		return api.Int{}
	}
	calls := map[string]func(a, b api.Mat) []api.Int{
		"Form": func(a, b api.Mat) []api.Int {
			form, _ := modhnf.Form(a)
			return form.At
		},
		"Modulo at a number of the other": func(a, b api.Mat) []api.Int {
			basis, _ := modhnf.Modulo(a, numberOf(b))
			return basis.At
		},
		"Modulo at a number of its own": func(a, b api.Mat) []api.Int {
			basis, _ := modhnf.Modulo(a, numberOf(a))
			return basis.At
		},
		"Modulo of zeros": func(a, b api.Mat) []api.Int {
			basis, _ := modhnf.Modulo(check.Filled(2, 3, nums(0)), numberOf(b))
			return basis.At
		},
		"Modulo of nothing": func(a, b api.Mat) []api.Int {
			basis, _ := modhnf.Modulo(mx("0x3"), numberOf(b))
			return basis.At
		},
	}
	for name, call := range takers() {
		calls[name+", all of it"] = func(a, b api.Mat) []api.Int {
			got, _ := call(a)
			return got
		}
		calls[name+" of what is not sound"] = func(a, b api.Mat) []api.Int {
			a.Rows++
			a.Cols++
			got, _ := call(a)
			return got
		}
	}
	check.MatMemory(t, calls, samples())
}

// R4: the words of d and of the one entry stay as they are, and no answer has them.
func TestMemoryOfSingles(t *testing.T) {
	calls := map[string]func(n, d api.Int) api.Int{
		"Modulo": func(n, d api.Int) api.Int {
			basis, _ := modhnf.Modulo(single(n), d)
			return entryOf(basis)
		},
		"Form": func(n, d api.Int) api.Int {
			form, _ := modhnf.Form(single(n))
			return entryOf(form)
		},
		"Volume":   check.Alone(func(n, d api.Int) (api.Int, api.Errno) { return modhnf.Volume(single(n)) }),
		"Multiple": check.Alone(func(n, d api.Int) (api.Int, api.Errno) { return modhnf.Multiple(single(n)) }),
	}
	check.IntMemory(t, calls, append(check.ShortSamples(2), check.Mixed(5, 1)))
}

// single is the matrix of one entry.
func single(n api.Int) api.Mat {
	return api.Mat{Rows: 1, Cols: 1, At: []api.Int{n}}
}

// entryOf is the first entry, where there is one.
func entryOf(a api.Mat) api.Int {
	if len(a.At) == 0 {
		return api.Int{}
	}
	return a.At[0]
}

// R4: entries and a d that have the same words.
func TestOverlap(t *testing.T) {
	words := []uint64{4, 0, 6, 9, 0}
	four, six, nine := plus(words[:2]...), plus(words[2:3]...), plus(words[3:]...)
	a := api.Mat{Rows: 2, Cols: 2, At: []api.Int{four, six, six, nine}}
	holdForm(t, a, mx("2 3; 0 0"))
	holdMultiple(t, a, num(4))
	holdModulo(t, a, four, mx("2 1; 0 2"))
	holdModulo(t, a, six, mx("2 0; 0 3"))
	holdModulo(t, a, nine, mx("1 6; 0 9"))
	check.Words(t, "what was handed in", words, []uint64{4, 0, 6, 9, 0})
}
