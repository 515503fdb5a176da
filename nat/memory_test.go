package nat_test

import (
	"fmt"
	"slices"
	"testing"

	"trellis/api"
	"trellis/nat"
)

// listCall is a call that answers a list, with all but its lists fixed.
type listCall struct {
	name string
	f    func(a, b list) list
}

// listCalls are the calls that answer lists: those first whose answer is just what was handed in, where sharing would tempt most.
func listCalls() []listCall {
	fixed := func(f func(list, int) (list, api.Errno), n int) func(a, b list) list {
		return func(a, b list) list {
			got, _ := f(a, n)
			return got
		}
	}
	sub := func(a, b list) list {
		got, _ := nat.Sub(a, b)
		return got
	}
	return []listCall{
		{"Least(a)", func(a, b list) list { return nat.Least(a) }},
		{"Add(a, 0)", func(a, b list) list { return nat.Add(a, nil) }},
		{"Add(0, a)", func(a, b list) list { return nat.Add(nil, a) }},
		{"Sub(a, 0)", func(a, b list) list { return sub(a, nil) }},
		{"Shl(a, 0)", fixed(nat.Shl, 0)},
		{"Shr(a, 0)", fixed(nat.Shr, 0)},
		{"Low(a, 1000)", fixed(nat.Low, 1000)},
		{"Add(a, b)", nat.Add},
		{"Add(a, a)", func(a, b list) list { return nat.Add(a, a) }},
		{"Sub(a, b)", sub},
		{"Sub(b, a)", func(a, b list) list { return sub(b, a) }},
		{"Sub(a, a)", func(a, b list) list { return sub(a, a) }},
		{"Sub(a, the low word of a)", func(a, b list) list { return sub(a, a[:min(1, len(a))]) }},
		{"Shl(a, 1)", fixed(nat.Shl, 1)},
		{"Shl(a, 64)", fixed(nat.Shl, 64)},
		{"Shl(a, -1)", fixed(nat.Shl, -1)},
		{"Shr(a, 1)", fixed(nat.Shr, 1)},
		{"Shr(a, 64)", fixed(nat.Shr, 64)},
		{"Shr(a, -1)", fixed(nat.Shr, -1)},
		{"Low(a, 0)", fixed(nat.Low, 0)},
		{"Low(a, 64)", fixed(nat.Low, 64)},
		{"Low(a, 100)", fixed(nat.Low, 100)},
		{"Low(a, -1)", fixed(nat.Low, -1)},
	}
}

// spare is the list a with spare room behind it, and the whole of its memory.
func spare(a list) (view, whole list) {
	whole = append(append(list{}, a...), 91, 92, 93)
	return whole[:len(a)], whole
}

// scribble writes over a list, spare room included.
func scribble(a list) {
	a = a[:cap(a)]
	for i := range a {
		a[i] = ^a[i]
	}
}

// R4: what is handed in stays as it is, spare room included, and an answer has memory of its own, its spare room too.
func TestMemory(t *testing.T) {
	lists := []list{nil, {0, 0}, {5}, {1, 2, 0}, {top, top}, {top, top, 0}, {0, 0, 1}}
	for _, c := range listCalls() {
		for _, x := range lists {
			for _, y := range lists {
				tryMemory(t, fmt.Sprintf("%s with a = %v, b = %v", c.name, x, y), c, x, y)
			}
		}
	}
}

func tryMemory(t *testing.T, call string, c listCall, x, y list) {
	t.Helper()
	a, wholeA := spare(x)
	b, wholeB := spare(y)
	startA, startB := slices.Clone(wholeA), slices.Clone(wholeB)
	first := c.f(a, b)
	second := c.f(a, b)
	want := slices.Clone(first)
	if !slices.Equal(wholeA, startA) || !slices.Equal(wholeB, startB) {
		t.Errorf("%s changed what was handed in: %v, %v", call, wholeA, wholeB)
	}
	scribble(first)
	if !slices.Equal(wholeA, startA) || !slices.Equal(wholeB, startB) {
		t.Errorf("%s shares memory with what was handed in", call)
	}
	if !slices.Equal(second, want) {
		t.Errorf("%s: two answers share memory, or differ: %v, want %v", call, second, want)
	}
	scribble(wholeA)
	scribble(wholeB)
	if !slices.Equal(second, want) {
		t.Errorf("%s hangs on what was handed in: %v, want %v", call, second, want)
	}
}

// R4 where the two lists that are handed in are pieces of one.
func TestOverlap(t *testing.T) {
	whole := list{top, top, 1, 0, 7}
	start := slices.Clone(whole)
	wantList(t, "Add of overlapping pieces", nat.Add(whole[:3], whole[1:4]), list{top - 1, 1, 2})
	diff, e := nat.Sub(whole[:3], whole[1:3])
	wantList(t, "Sub of overlapping pieces", diff, list{0, top - 1, 1})
	wantErrno(t, "Sub of overlapping pieces", e, api.OK)
	wantList(t, "what was handed in", whole, start)
}
