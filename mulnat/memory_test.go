package mulnat_test

import (
	"slices"
	"testing"

	"trellis/api"
	"trellis/check"
	"trellis/mulnat"
)

// listCalls are the calls that answer lists, those among them whose answer is just what was handed in, where sharing would tempt most.
func listCalls() map[string]func(a, b list) list {
	low := func(n int) func(a, b list) list {
		return func(a, b list) list {
			got, _ := mulnat.MulLow(a, b, n)
			return got
		}
	}
	pow := func(n int) func(a, b list) list {
		return func(a, b list) list {
			got, _ := mulnat.Pow(a, n)
			return got
		}
	}
	one := list{1}
	return map[string]func(a, b list) list{
		"Word(a, 1)":           func(a, b list) list { return mulnat.Word(a, 1) },
		"Mul(a, 1)":            func(a, b list) list { return mulnat.Mul(a, one) },
		"Mul(1, a)":            func(a, b list) list { return mulnat.Mul(one, a) },
		"MulAdd(a, 1, 0)":      func(a, b list) list { return mulnat.MulAdd(a, one, nil) },
		"MulAdd(a, 0, b)":      func(a, b list) list { return mulnat.MulAdd(a, nil, b) },
		"Pow(a, 1)":            pow(1),
		"Product(a)":           func(a, b list) list { return mulnat.Product(a) },
		"Product(a, 1)":        func(a, b list) list { return mulnat.Product(a, one) },
		"Product()":            func(a, b list) list { return mulnat.Product() },
		"Word(a, 0)":           func(a, b list) list { return mulnat.Word(a, 0) },
		"Word(a, top)":         func(a, b list) list { return mulnat.Word(a, top) },
		"Mul(a, b)":            mulnat.Mul,
		"Mul(a, a)":            func(a, b list) list { return mulnat.Mul(a, a) },
		"MulAdd(a, b, a)":      func(a, b list) list { return mulnat.MulAdd(a, b, a) },
		"MulAdd(a, a, a)":      func(a, b list) list { return mulnat.MulAdd(a, a, a) },
		"MulLow(a, b, -1)":     low(-1),
		"MulLow(a, b, 0)":      low(0),
		"MulLow(a, b, 64)":     low(64),
		"MulLow(a, b, 100)":    low(100),
		"MulLow(a, b, 100000)": low(100000),
		"Square(a)":            func(a, b list) list { return mulnat.Square(a) },
		"Pow(a, -1)":           pow(-1),
		"Pow(a, 0)":            pow(0),
		"Pow(a, 2)":            pow(2),
		"Pow(a, 5)":            pow(5),
		"Product(a, b)":        func(a, b list) list { return mulnat.Product(a, b) },
		"Product(a, b, a)":     func(a, b list) list { return mulnat.Product(a, b, a) },
	}
}

// R4: what is handed in stays as it is, spare room included, and an answer has memory of its own, its spare room too.
func TestMemory(t *testing.T) {
	check.Memory(t, listCalls(), []list{nil, {0, 0}, {1}, {5}, {1, 2, 0}, {top, top}, {top, top, 0}, {0, 0, 1}, check.Repeat(top, 70), append(check.Mixed(200, 5), 0, 0)})
}

// R4: the list of lists that Product is handed stays as it is too, its spare room included.
func TestProductKeepsItsList(t *testing.T) {
	whole := []list{{2}, {3, 0}, {5}, {7}, {11}}
	check.Words(t, "Product of four", mulnat.Product(whole[:4]...), list{210})
	for i, want := range []list{{2}, {3, 0}, {5}, {7}, {11}} {
		check.Words(t, "what was handed in", whole[i], want)
	}
}

// R4 where the lists that are handed in are pieces of one.
func TestOverlap(t *testing.T) {
	whole := list{top, top, 1, 0, 7}
	start := slices.Clone(whole)
	check.Words(t, "Mul of overlapping pieces", mulnat.Mul(whole[:2], whole[1:3]), list{1, top - 1, top - 1, 1})
	check.Words(t, "MulAdd of overlapping pieces", mulnat.MulAdd(whole[:1], whole[2:3], whole[1:4]), list{top - 1, 2})
	check.Words(t, "Product of overlapping pieces", mulnat.Product(whole[:1], whole[2:], whole[4:]), mulnat.Mul(list{7}, mulnat.Mul(list{top}, list{1, 0, 7})))
	low, e := mulnat.MulLow(whole[:2], whole[:3], 64)
	check.Words(t, "MulLow of overlapping pieces", low, list{1})
	check.Same(t, "MulLow of overlapping pieces", e, api.OK)
	check.Words(t, "what was handed in", whole, start)
}
