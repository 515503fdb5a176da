package check

import (
	"maps"
	"slices"

	"trellis/api"
)

// Memory holds calls that answer a list of words, by their names, against R4 at each pair of the lists:
// what is handed in stays as it is, spare room included, and an answer has memory of its own, its spare room too.
func Memory(t Reporter, calls map[string]func(a, b []uint64) []uint64, lists [][]uint64) {
	t.Helper()
	for _, name := range slices.Sorted(maps.Keys(calls)) {
		for _, x := range lists {
			for _, y := range lists {
				memoryOf(t, name, calls[name], x, y)
			}
		}
	}
}

// IntMemory holds calls that answer an integer against R4 as Memory does those that answer a list: at each pair of the lists as sizes, and each pair of signs.
func IntMemory(t Reporter, calls map[string]func(a, b api.Int) api.Int, sizes [][]uint64) {
	t.Helper()
	for _, negA := range []bool{false, true} {
		for _, negB := range []bool{false, true} {
			ofSizes := map[string]func(a, b []uint64) []uint64{}
			for name, call := range calls {
				ofSizes[name] = func(a, b []uint64) []uint64 {
					return call(api.Int{Neg: negA, Mag: a}, api.Int{Neg: negB, Mag: b}).Mag
				}
			}
			Memory(t, ofSizes, sizes)
		}
	}
}

// ListMemory holds calls that answer a list of integers, by their names, against R4 at each of the lists, as Memory does those that answer words.
func ListMemory(t Reporter, calls map[string]func(list []api.Int) []api.Int, lists [][]api.Int) {
	t.Helper()
	for _, name := range slices.Sorted(maps.Keys(calls)) {
		for _, x := range lists {
			listMemoryOf(t, name, calls[name], x)
		}
	}
}

func listMemoryOf(t Reporter, name string, call func(list []api.Int) []api.Int, x []api.Int) {
	t.Helper()
	a := Roomy(x)
	first := call(a)
	second := call(a)
	want := Roomy(first)
	if !areRoomyInts(a, x) {
		t.Errorf("%s of %v changed what was handed in", name, x)
	}
	var sizes [][]uint64
	for _, n := range first {
		sizes = append(sizes, n.Mag)
	}
	Apart(t, name, sizes...)
	Spoil(first)
	if !areRoomyInts(a, x) {
		t.Errorf("%s of %v shares memory with what was handed in", name, x)
	}
	if !sameInts(second, want) {
		t.Errorf("%s of %v: two answers share memory, or differ", name, x)
	}
	Spoil(a)
	if !sameInts(second, want) {
		t.Errorf("%s of %v hangs on what was handed in", name, x)
	}
}

// Roomy is a copy of a, all its integers and itself with spare room behind them.
func Roomy(a []api.Int) []api.Int {
	var all []api.Int
	for _, n := range slices.Concat(a, roomOfInts()) {
		all = append(all, api.Int{Neg: n.Neg, Mag: roomy(n.Mag)})
	}
	return all[:len(a)]
}

// areRoomyInts says if a is still the roomy copy of x.
func areRoomyInts(a, x []api.Int) bool {
	whole := slices.Concat(x, roomOfInts())
	return slices.EqualFunc(a[:len(whole)], whole, func(n, m api.Int) bool {
		return n.Neg == m.Neg && isRoomy(n.Mag, m.Mag)
	})
}

// roomOfInts is what stands in the spare room of a roomy list of integers.
func roomOfInts() []api.Int {
	return []api.Int{Plus(94), Minus(95, 96)}
}

// Spoil writes over a list of integers and over the integers themselves, spare room included.
func Spoil(a []api.Int) {
	a = a[:cap(a)]
	for i, n := range a {
		scribble(n.Mag)
		a[i] = api.Int{Neg: !n.Neg, Mag: []uint64{97}}
	}
}

// Alone is the integer that a call answers beside its errno.
func Alone(call func(a, b api.Int) (api.Int, api.Errno)) func(a, b api.Int) api.Int {
	return func(a, b api.Int) api.Int {
		got, _ := call(a, b)
		return got
	}
}

// First and Second are one of the two integers that a call answers beside its errno.
func First(call func(a, b api.Int) (api.Int, api.Int, api.Errno)) func(a, b api.Int) api.Int {
	return func(a, b api.Int) api.Int {
		got, _, _ := call(a, b)
		return got
	}
}

func Second(call func(a, b api.Int) (api.Int, api.Int, api.Errno)) func(a, b api.Int) api.Int {
	return func(a, b api.Int) api.Int {
		_, got, _ := call(a, b)
		return got
	}
}

func memoryOf(t Reporter, name string, call func(a, b []uint64) []uint64, x, y []uint64) {
	t.Helper()
	a, b := roomy(x), roomy(y)
	first := call(a, b)
	second := call(a, b)
	want := slices.Clone(first)
	if !isRoomy(a, x) || !isRoomy(b, y) {
		t.Errorf("%s with a = %v, b = %v changed what was handed in", name, x, y)
	}
	scribble(first)
	if !isRoomy(a, x) || !isRoomy(b, y) {
		t.Errorf("%s with a = %v, b = %v shares memory with what was handed in", name, x, y)
	}
	if !slices.Equal(second, want) {
		t.Errorf("%s with a = %v, b = %v: two answers share memory, or differ", name, x, y)
	}
	scribble(a)
	scribble(b)
	if !slices.Equal(second, want) {
		t.Errorf("%s with a = %v, b = %v hangs on what was handed in", name, x, y)
	}
}

// room is what stands in the spare room of a roomy list.
func room() []uint64 {
	return []uint64{91, 92, 93}
}

// roomy is a copy of a with spare room behind it, which holds what a call must not touch.
func roomy(a []uint64) []uint64 {
	return slices.Concat(a, room())[:len(a)]
}

// isRoomy says if a is still the roomy copy of x.
func isRoomy(a, x []uint64) bool {
	whole := slices.Concat(x, room())
	// A list that has come in its place may have no such room.
	return len(a) == len(x) && cap(a) >= len(whole) && slices.Equal(a[:len(whole)], whole)
}

// scribble writes over a list, spare room included.
func scribble(a []uint64) {
	a = a[:cap(a)]
	for i := range a {
		a[i] = ^a[i]
	}
}

// Apart holds the lists of one answer against R4: no two of them share memory, spare room included. It leaves them as they were.
func Apart(t Reporter, call string, answer ...[]uint64) {
	t.Helper()
	var before [][]uint64
	for _, a := range answer {
		before = append(before, slices.Clone(a[:cap(a)]))
	}
	for i, a := range answer {
		scribble(a)
		for j, b := range answer {
			if j != i && !slices.Equal(b[:cap(b)], before[j]) {
				t.Errorf("%s: lists %d and %d of the answer share memory", call, i, j)
			}
		}
		scribble(a)
	}
}
