package mulnat_test

import (
	"fmt"
	"slices"
	"testing"

	"trellis/api"
	"trellis/mulnat"
)

// listCall is a call that answers a list, with all but its lists fixed.
type listCall struct {
	name string
	f    func(a, b list) list
}

// listCalls are the calls that answer lists: those first whose answer is just what was handed in, where sharing would tempt most.
func listCalls() []listCall {
	low := func(n int) func(a, b list) list {
		return func(a, b list) list {
			got, _ := mulnat.MulLow(a, b, n)
			return got
		}
	}
	pow := func(n int) func(a, b list) list {
		return func(a, b list) list {
			got, _ := mulnat.Pow(a, n)
			return got
		}
	}
	one := list{1}
	return []listCall{
		{"Word(a, 1)", func(a, b list) list { return mulnat.Word(a, 1) }},
		{"Mul(a, 1)", func(a, b list) list { return mulnat.Mul(a, one) }},
		{"Mul(1, a)", func(a, b list) list { return mulnat.Mul(one, a) }},
		{"MulAdd(a, 1, 0)", func(a, b list) list { return mulnat.MulAdd(a, one, nil) }},
		{"MulAdd(a, 0, b)", func(a, b list) list { return mulnat.MulAdd(a, nil, b) }},
		{"Pow(a, 1)", pow(1)},
		{"Product(a)", func(a, b list) list { return mulnat.Product(a) }},
		{"Product(a, 1)", func(a, b list) list { return mulnat.Product(a, one) }},
		{"Product()", func(a, b list) list { return mulnat.Product() }},
		{"Word(a, 0)", func(a, b list) list { return mulnat.Word(a, 0) }},
		{"Word(a, top)", func(a, b list) list { return mulnat.Word(a, top) }},
		{"Mul(a, b)", mulnat.Mul},
		{"Mul(a, a)", func(a, b list) list { return mulnat.Mul(a, a) }},
		{"MulAdd(a, b, a)", func(a, b list) list { return mulnat.MulAdd(a, b, a) }},
		{"MulAdd(a, a, a)", func(a, b list) list { return mulnat.MulAdd(a, a, a) }},
		{"MulLow(a, b, -1)", low(-1)},
		{"MulLow(a, b, 0)", low(0)},
		{"MulLow(a, b, 64)", low(64)},
		{"MulLow(a, b, 100)", low(100)},
		{"MulLow(a, b, 100000)", low(100000)},
		{"Square(a)", func(a, b list) list { return mulnat.Square(a) }},
		{"Pow(a, -1)", pow(-1)},
		{"Pow(a, 0)", pow(0)},
		{"Pow(a, 2)", pow(2)},
		{"Pow(a, 5)", pow(5)},
		{"Product(a, b)", func(a, b list) list { return mulnat.Product(a, b) }},
		{"Product(a, b, a)", func(a, b list) list { return mulnat.Product(a, b, a) }},
	}
}

// spare is the list a with spare room behind it, and the whole of its memory.
func spare(a list) (view, whole list) {
	whole = append(append(list{}, a...), 91, 92, 93)
	return whole[:len(a)], whole
}

// scribble writes over a list, spare room included.
func scribble(a list) {
	a = a[:cap(a)]
	for i := range a {
		a[i] = ^a[i]
	}
}

// R4: what is handed in stays as it is, spare room included, and an answer has memory of its own, its spare room too.
func TestMemory(t *testing.T) {
	lists := []list{nil, {0, 0}, {1}, {5}, {1, 2, 0}, {top, top}, {top, top, 0}, {0, 0, 1}, repeat(top, 70), append(mixed(200, 5), 0, 0)}
	for _, c := range listCalls() {
		for _, x := range lists {
			for _, y := range lists {
				tryMemory(t, fmt.Sprintf("%s with a = %v, b = %v", c.name, x, y), c, x, y)
			}
		}
	}
}

func tryMemory(t *testing.T, call string, c listCall, x, y list) {
	t.Helper()
	a, wholeA := spare(x)
	b, wholeB := spare(y)
	startA, startB := slices.Clone(wholeA), slices.Clone(wholeB)
	first := c.f(a, b)
	second := c.f(a, b)
	want := slices.Clone(first)
	if !slices.Equal(wholeA, startA) || !slices.Equal(wholeB, startB) {
		t.Errorf("%s changed what was handed in: %v, %v", call, wholeA, wholeB)
	}
	scribble(first)
	if !slices.Equal(wholeA, startA) || !slices.Equal(wholeB, startB) {
		t.Errorf("%s shares memory with what was handed in", call)
	}
	if !slices.Equal(second, want) {
		t.Errorf("%s: two answers share memory, or differ: %v, want %v", call, second, want)
	}
	scribble(wholeA)
	scribble(wholeB)
	if !slices.Equal(second, want) {
		t.Errorf("%s hangs on what was handed in: %v, want %v", call, second, want)
	}
}

// R4: the list of lists that Product is handed stays as it is too, its spare room included.
func TestProductKeepsItsList(t *testing.T) {
	whole := []list{{2}, {3, 0}, {5}, {7}, {11}}
	wantList(t, "Product of four", mulnat.Product(whole[:4]...), list{210})
	for i, want := range []list{{2}, {3, 0}, {5}, {7}, {11}} {
		wantList(t, "what was handed in", whole[i], want)
	}
}

// R4 where the lists that are handed in are pieces of one.
func TestOverlap(t *testing.T) {
	whole := list{top, top, 1, 0, 7}
	start := slices.Clone(whole)
	wantList(t, "Mul of overlapping pieces", mulnat.Mul(whole[:2], whole[1:3]), list{1, top - 1, top - 1, 1})
	wantList(t, "MulAdd of overlapping pieces", mulnat.MulAdd(whole[:1], whole[2:3], whole[1:4]), list{top - 1, 2})
	wantList(t, "Product of overlapping pieces", mulnat.Product(whole[:1], whole[2:], whole[4:]), mulnat.Mul(list{7}, mulnat.Mul(list{top}, list{1, 0, 7})))
	low, e := mulnat.MulLow(whole[:2], whole[:3], 64)
	wantList(t, "MulLow of overlapping pieces", low, list{1})
	wantErrno(t, "MulLow of overlapping pieces", e, api.OK)
	wantList(t, "what was handed in", whole, start)
}
