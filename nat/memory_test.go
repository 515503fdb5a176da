package nat_test

import (
	"slices"
	"testing"

	"trellis/api"
	"trellis/check"
	"trellis/nat"
)

// listCalls are the calls that answer lists, those among them whose answer is just what was handed in, where sharing would tempt most.
func listCalls() map[string]func(a, b list) list {
	fixed := func(f func(list, int) (list, api.Errno), n int) func(a, b list) list {
		return func(a, b list) list {
			got, _ := f(a, n)
			return got
		}
	}
	sub := func(a, b list) list {
		got, _ := nat.Sub(a, b)
		return got
	}
	return map[string]func(a, b list) list{
		"Least(a)":                  func(a, b list) list { return nat.Least(a) },
		"Add(a, 0)":                 func(a, b list) list { return nat.Add(a, nil) },
		"Add(0, a)":                 func(a, b list) list { return nat.Add(nil, a) },
		"Sub(a, 0)":                 func(a, b list) list { return sub(a, nil) },
		"Shl(a, 0)":                 fixed(nat.Shl, 0),
		"Shr(a, 0)":                 fixed(nat.Shr, 0),
		"Low(a, 1000)":              fixed(nat.Low, 1000),
		"Add(a, b)":                 nat.Add,
		"Add(a, a)":                 func(a, b list) list { return nat.Add(a, a) },
		"Sub(a, b)":                 sub,
		"Sub(b, a)":                 func(a, b list) list { return sub(b, a) },
		"Sub(a, a)":                 func(a, b list) list { return sub(a, a) },
		"Sub(a, the low word of a)": func(a, b list) list { return sub(a, a[:min(1, len(a))]) },
		"Shl(a, 1)":                 fixed(nat.Shl, 1),
		"Shl(a, 64)":                fixed(nat.Shl, 64),
		"Shl(a, -1)":                fixed(nat.Shl, -1),
		"Shr(a, 1)":                 fixed(nat.Shr, 1),
		"Shr(a, 64)":                fixed(nat.Shr, 64),
		"Shr(a, -1)":                fixed(nat.Shr, -1),
		"Low(a, 0)":                 fixed(nat.Low, 0),
		"Low(a, 64)":                fixed(nat.Low, 64),
		"Low(a, 100)":               fixed(nat.Low, 100),
		"Low(a, -1)":                fixed(nat.Low, -1),
	}
}

// R4: what is handed in stays as it is, spare room included, and an answer has memory of its own, its spare room too.
func TestMemory(t *testing.T) {
	check.Memory(t, listCalls(), []list{nil, {0, 0}, {5}, {1, 2, 0}, {top, top}, {top, top, 0}, {0, 0, 1}})
}

// R4 where the two lists that are handed in are pieces of one.
func TestOverlap(t *testing.T) {
	whole := list{top, top, 1, 0, 7}
	start := slices.Clone(whole)
	check.Words(t, "Add of overlapping pieces", nat.Add(whole[:3], whole[1:4]), list{top - 1, 1, 2})
	diff, e := nat.Sub(whole[:3], whole[1:3])
	check.Words(t, "Sub of overlapping pieces", diff, list{0, top - 1, 1})
	check.Same(t, "Sub of overlapping pieces", e, api.OK)
	check.Words(t, "what was handed in", whole, start)
}
