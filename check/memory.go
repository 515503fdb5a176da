package check

import (
	"maps"
	"slices"

	"trellis/api"
)

// Memory holds calls that answer a list of words, by their names, against R4 at each pair of the lists:
// what is handed in stays as it is, spare room included, and an answer has memory of its own, its spare room too.
func Memory(t Reporter, calls map[string]func(a, b []uint64) []uint64, lists [][]uint64) {
	t.Helper()
	for _, name := range slices.Sorted(maps.Keys(calls)) {
		for _, x := range lists {
			for _, y := range lists {
				memoryOf(t, name, calls[name], x, y)
			}
		}
	}
}

// IntMemory holds calls that answer an integer against R4 as Memory does those that answer a list: at each pair of the lists as sizes, and each pair of signs.
func IntMemory(t Reporter, calls map[string]func(a, b api.Int) api.Int, sizes [][]uint64) {
	t.Helper()
	for _, negA := range []bool{false, true} {
		for _, negB := range []bool{false, true} {
			ofSizes := map[string]func(a, b []uint64) []uint64{}
			for name, call := range calls {
				ofSizes[name] = func(a, b []uint64) []uint64 {
					return call(api.Int{Neg: negA, Mag: a}, api.Int{Neg: negB, Mag: b}).Mag
				}
			}
			Memory(t, ofSizes, sizes)
		}
	}
}

func memoryOf(t Reporter, name string, call func(a, b []uint64) []uint64, x, y []uint64) {
	t.Helper()
	a, b := roomy(x), roomy(y)
	first := call(a, b)
	second := call(a, b)
	want := slices.Clone(first)
	if !isRoomy(a, x) || !isRoomy(b, y) {
		t.Errorf("%s with a = %v, b = %v changed what was handed in", name, x, y)
	}
	scribble(first)
	if !isRoomy(a, x) || !isRoomy(b, y) {
		t.Errorf("%s with a = %v, b = %v shares memory with what was handed in", name, x, y)
	}
	if !slices.Equal(second, want) {
		t.Errorf("%s with a = %v, b = %v: two answers share memory, or differ", name, x, y)
	}
	scribble(a)
	scribble(b)
	if !slices.Equal(second, want) {
		t.Errorf("%s with a = %v, b = %v hangs on what was handed in", name, x, y)
	}
}

// room is what stands in the spare room of a roomy list.
func room() []uint64 {
	return []uint64{91, 92, 93}
}

// roomy is a copy of a with spare room behind it, which holds what a call must not touch.
func roomy(a []uint64) []uint64 {
	return slices.Concat(a, room())[:len(a)]
}

// isRoomy says if a is still the roomy copy of x.
func isRoomy(a, x []uint64) bool {
	whole := slices.Concat(x, room())
	return slices.Equal(a[:len(whole)], whole)
}

// scribble writes over a list, spare room included.
func scribble(a []uint64) {
	a = a[:cap(a)]
	for i := range a {
		a[i] = ^a[i]
	}
}

// Apart holds the lists of one answer against R4: no two of them share memory, spare room included. It leaves them as they were.
func Apart(t Reporter, call string, answer ...[]uint64) {
	t.Helper()
	var before [][]uint64
	for _, a := range answer {
		before = append(before, slices.Clone(a[:cap(a)]))
	}
	for i, a := range answer {
		scribble(a)
		for j, b := range answer {
			if j != i && !slices.Equal(b[:cap(b)], before[j]) {
				t.Errorf("%s: lists %d and %d of the answer share memory", call, i, j)
			}
		}
		scribble(a)
	}
}
