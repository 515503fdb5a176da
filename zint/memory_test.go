package zint_test

import (
	"fmt"
	"slices"
	"testing"

	"trellis/api"
	"trellis/check"
	"trellis/zint"
)

// memorySizes are what the memory tests hand in.
func memorySizes() []list {
	return []list{nil, {0, 0}, {1}, {5}, {2, 0}, {1, 2, 0}, {top, top}, {0, 0, 1}, append(check.Mixed(9, 5), 0, 0)}
}

// intCalls are the calls that answer an integer, those among them whose answer is just what was handed in, where sharing would tempt most.
func intCalls() map[string]func(a, b api.Int) api.Int {
	pow := func(n int) func(a, b api.Int) api.Int {
		return check.Alone(func(a, b api.Int) (api.Int, api.Errno) { return zint.Pow(a, n) })
	}
	dot := func(a, b []api.Int) api.Int {
		got, _ := zint.Dot(a, b)
		return got
	}
	calls := map[string]func(a, b api.Int) api.Int{
		"Least(a)":         func(a, b api.Int) api.Int { return zint.Least(a) },
		"Neg(a)":           func(a, b api.Int) api.Int { return zint.Neg(a) },
		"Abs(a)":           func(a, b api.Int) api.Int { return zint.Abs(a) },
		"Of(0)":            func(a, b api.Int) api.Int { return zint.Of(0) },
		"Of(-5)":           func(a, b api.Int) api.Int { return zint.Of(-5) },
		"Add(a, b)":        zint.Add,
		"Add(a, 0)":        func(a, b api.Int) api.Int { return zint.Add(a, plus()) },
		"Add(0, a)":        func(a, b api.Int) api.Int { return zint.Add(plus(), a) },
		"Add(a, a)":        func(a, b api.Int) api.Int { return zint.Add(a, a) },
		"Sub(a, b)":        zint.Sub,
		"Sub(a, 0)":        func(a, b api.Int) api.Int { return zint.Sub(a, plus()) },
		"Sub(0, a)":        func(a, b api.Int) api.Int { return zint.Sub(plus(), a) },
		"Sub(a, a)":        func(a, b api.Int) api.Int { return zint.Sub(a, a) },
		"Mul(a, b)":        zint.Mul,
		"Mul(a, 1)":        func(a, b api.Int) api.Int { return zint.Mul(a, plus(1)) },
		"Mul(a, a)":        func(a, b api.Int) api.Int { return zint.Mul(a, a) },
		"MulAdd(a, b, a)":  func(a, b api.Int) api.Int { return zint.MulAdd(a, b, a) },
		"MulAdd(a, 0, b)":  func(a, b api.Int) api.Int { return zint.MulAdd(a, plus(), b) },
		"MulAdd(a, 1, 0)":  func(a, b api.Int) api.Int { return zint.MulAdd(a, plus(1), plus()) },
		"Sum()":            func(a, b api.Int) api.Int { return zint.Sum() },
		"Sum(a)":           func(a, b api.Int) api.Int { return zint.Sum(a) },
		"Sum(a, b, a)":     func(a, b api.Int) api.Int { return zint.Sum(a, b, a) },
		"Dot of none":      func(a, b api.Int) api.Int { return dot(nil, nil) },
		"Dot([a], [b])":    func(a, b api.Int) api.Int { return dot([]api.Int{a}, []api.Int{b}) },
		"Dot([a, b], one)": func(a, b api.Int) api.Int { return dot([]api.Int{a, b}, []api.Int{b}) },
		"Dot([a], [1])":    func(a, b api.Int) api.Int { return dot([]api.Int{a}, nums(1)) },
		"Pow(a, -1)":       pow(-1),
		"Pow(a, 0)":        pow(0),
		"Pow(a, 1)":        pow(1),
		"Pow(a, 5)":        pow(5),
		"Exact(a, b)":      check.Alone(zint.Exact),
		"Exact(a, 1)":      func(a, b api.Int) api.Int { return check.Alone(zint.Exact)(a, plus(1)) },
		"Exact(a, a)":      func(a, b api.Int) api.Int { return check.Alone(zint.Exact)(a, a) },
		"Mod(a, b)":        check.Alone(zint.Mod),
		"Sym(a, b)":        check.Alone(zint.Sym),
		"Mod(a, much)":     func(a, b api.Int) api.Int { return check.Alone(zint.Mod)(a, plus(check.Repeat(top, 12)...)) },
		"Sym(a, much)":     func(a, b api.Int) api.Int { return check.Alone(zint.Sym)(a, plus(check.Repeat(top, 12)...)) },
		"Read(Text(a))": func(a, b api.Int) api.Int {
			got, _ := zint.Read(zint.Text(a))
			return got
		},
		"Sign, Cmp, CmpAbs and Small": func(a, b api.Int) api.Int {
			small, _ := zint.Small(a)
			return plus(uint64(zint.Sign(a)), uint64(zint.Cmp(a, b)), uint64(zint.CmpAbs(a, b)), uint64(small))
		},
	}
	for name, divide := range divisions() {
		calls[name+", quotient"] = check.First(divide)
		calls[name+", rest"] = check.Second(divide)
		calls[name+" by 1, quotient"] = func(a, b api.Int) api.Int { return check.First(divide)(a, plus(1)) }
		calls[name+" by much, rest"] = func(a, b api.Int) api.Int { return check.Second(divide)(a, plus(check.Repeat(top, 12)...)) }
	}
	return calls
}

// R4: what is handed in stays as it is, spare room included, and an answer has memory of its own, its spare room too.
func TestMemory(t *testing.T) {
	check.IntMemory(t, intCalls(), memorySizes())
}

// R4: the two integers of one answer share no memory.
func TestTwoIntegers(t *testing.T) {
	for _, a := range signs(memorySizes()) {
		for _, b := range signs(memorySizes()) {
			for name, divide := range divisions() {
				q, r, _ := divide(a, b)
				check.Apart(t, fmt.Sprintf("%s(%v, %v)", name, a, b), q.Mag, r.Mag)
			}
		}
	}
}

// R4: the lists of integers that are handed in stay as they are too, their spare room included.
func TestListsStay(t *testing.T) {
	start := []api.Int{minus(5, 0), plus(7), minus(0), plus(top, top), minus(11), plus(13)}
	a, b := slices.Clone(start), slices.Clone(start)
	for n := range 5 {
		zint.Sum(a[:n]...)
		zint.Dot(a[:n], b[:n])
		zint.Dot(a[:n], b[:n+1])
	}
	for i, want := range start {
		check.Int(t, "what was handed in first", a[i], want)
		check.Int(t, "what was handed in second", b[i], want)
	}
}

// R4 where the words that are handed in are pieces of one list.
func TestOverlap(t *testing.T) {
	whole := list{top, top, 1, 0, 7}
	start := slices.Clone(whole)
	check.Int(t, "Add of overlapping pieces", zint.Add(plus(whole[:2]...), minus(whole[1:3]...)), plus(0, top-1))
	check.Int(t, "Mul of overlapping pieces", zint.Mul(minus(whole[:2]...), plus(whole[1:3]...)), minus(1, top-1, top-1, 1))
	check.Int(t, "Sum of overlapping pieces", zint.Sum(plus(whole[:1]...), plus(whole[2:3]...), minus(whole[:2]...)), minus(top, top-1))
	q, r, e := zint.Floor(minus(whole[:3]...), plus(whole[1:3]...))
	check.Int(t, "Floor of overlapping pieces, quotient", q, minus(1, 1))
	check.Int(t, "Floor of overlapping pieces, rest", r, plus(0, 1))
	check.Same(t, "Floor of overlapping pieces", e, api.OK)
	check.Words(t, "what was handed in", whole, start)
}
