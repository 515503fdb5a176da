package divnat_test

import (
	"fmt"
	"slices"
	"testing"

	"trellis/api"
	"trellis/check"
	"trellis/divnat"
)

// samples are what the memory tests hand in.
func samples() []list {
	return []list{nil, {0, 0}, {1}, {5}, {2, 0}, {1, 2, 0}, {top, top}, {top, top, 0}, {0, 0, 1}, check.Repeat(top, 9), append(check.Mixed(20, 5), 0, 0)}
}

// listCalls are the calls that answer lists, those among them whose answer is just what was handed in, where sharing would tempt most.
func listCalls() map[string]func(a, b list) list {
	word := func(w uint64) func(a, b list) list {
		return func(a, b list) list {
			q, _, _ := divnat.Word(a, w)
			return q
		}
	}
	root := func(k int) func(a, b list) list {
		return func(a, b list) list {
			got, _ := divnat.Root(a, k)
			return got
		}
	}
	quotient := func(a, b list) list {
		q, _, _ := divnat.DivMod(a, b)
		return q
	}
	rest := func(a, b list) list {
		_, r, _ := divnat.DivMod(a, b)
		return r
	}
	exact := func(a, b list) list {
		q, _ := divnat.Exact(a, b)
		return q
	}
	strip := func(a, b list) list {
		_, left, _ := divnat.Strip(a, b)
		return left
	}
	return map[string]func(a, b list) list{
		"Word(a, 0)":         word(0),
		"Word(a, 1)":         word(1),
		"Word(a, top)":       word(top),
		"DivMod(a, b), q":    quotient,
		"DivMod(a, b), r":    rest,
		"DivMod(a, 1), q":    func(a, b list) list { return quotient(a, list{1}) },
		"DivMod(a, 2^640) r": func(a, b list) list { return rest(a, power2(10)) },
		"Exact(a, b)":        exact,
		"Exact(a, 1)":        func(a, b list) list { return exact(a, list{1}) },
		"Exact(a, a)":        func(a, b list) list { return exact(a, a) },
		"Gcd(a, b)":          divnat.Gcd,
		"Gcd(a, 0)":          func(a, b list) list { return divnat.Gcd(a, nil) },
		"Gcd(0, a)":          func(a, b list) list { return divnat.Gcd(nil, a) },
		"Gcd(a, a)":          func(a, b list) list { return divnat.Gcd(a, a) },
		"Sqrt(a), root":      func(a, b list) list { got, _ := divnat.Sqrt(a); return got },
		"Sqrt(a), left":      func(a, b list) list { _, left := divnat.Sqrt(a); return left },
		"Root(a, 0)":         root(0),
		"Root(a, 1)":         root(1),
		"Root(a, 2)":         root(2),
		"Root(a, 3)":         root(3),
		"Root(a, 600)":       root(600),
		"Root(a, 10000)":     root(10000),
		"Strip(a, b)":        strip,
		"Strip(a, 2)":        func(a, b list) list { return strip(a, list{2}) },
		"Strip(a, 2^1920)":   func(a, b list) list { return strip(a, power2(30)) },
	}
}

// R4: what is handed in stays as it is, spare room included, and an answer has memory of its own, its spare room too.
func TestMemory(t *testing.T) {
	check.Memory(t, listCalls(), samples())
}

// R4: the two lists of one answer share no memory.
func TestTwoLists(t *testing.T) {
	for _, a := range samples() {
		for _, b := range samples() {
			q, r, _ := divnat.DivMod(a, b)
			check.Apart(t, fmt.Sprintf("DivMod(%#x, %#x)", a, b), q, r)
		}
		root, left := divnat.Sqrt(a)
		check.Apart(t, fmt.Sprintf("Sqrt(%#x)", a), root, left)
	}
}

// R4 where the lists that are handed in are pieces of one.
func TestOverlap(t *testing.T) {
	whole := list{top, top, 1, 0, 7}
	start := slices.Clone(whole)
	q, r, e := divnat.DivMod(whole[:3], whole[1:3])
	check.Words(t, "DivMod of overlapping pieces, quotient", q, list{0, 1})
	check.Words(t, "DivMod of overlapping pieces, rest", r, list{top})
	check.Same(t, "DivMod of overlapping pieces", e, api.OK)
	q, e = divnat.Exact(whole, whole)
	check.Words(t, "Exact of one list by itself", q, list{1})
	check.Same(t, "Exact of one list by itself", e, api.OK)
	check.Words(t, "Gcd of overlapping pieces", divnat.Gcd(whole[:2], whole[1:2]), list{top})
	n, left, e := divnat.Strip(whole[:2], whole[:1])
	check.Same(t, "Strip of overlapping pieces, count", n, 1)
	check.Words(t, "Strip of overlapping pieces, left", left, list{1, 1})
	check.Same(t, "Strip of overlapping pieces", e, api.OK)
	check.Words(t, "what was handed in", whole, start)
}
