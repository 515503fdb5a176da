package check_test

import (
	"math"
	"slices"
	"testing"

	"trellis/api"
	"trellis/check"
)

// counter counts the faults that it is told.
type counter struct{ faults int }

func (c *counter) Helper() {}

func (c *counter) Errorf(format string, args ...any) { c.faults++ }

type list = []uint64

func TestHoldingAgainst(t *testing.T) {
	for _, c := range []struct {
		name   string
		tell   func(r check.Reporter)
		faulty bool
	}{
		{"equal numbers", func(r check.Reporter) { check.Same(r, "", 3, 3) }, false},
		{"other numbers", func(r check.Reporter) { check.Same(r, "", 3, 4) }, true},
		{"equal lists", func(r check.Reporter) { check.Words(r, "", list{1, 2}, list{1, 2}) }, false},
		{"no list and a list without words", func(r check.Reporter) { check.Words(r, "", list{}, nil) }, false},
		{"a zero word more", func(r check.Reporter) { check.Words(r, "", list{1, 0}, list{1}) }, true},
		{"equal integers", func(r check.Reporter) {
			check.Int(r, "", api.Int{Neg: true, Mag: list{1, 2}}, api.Int{Neg: true, Mag: list{1, 2}})
		}, false},
		{"two zeros", func(r check.Reporter) { check.Int(r, "", api.Int{Mag: list{}}, api.Int{}) }, false},
		{"another sign", func(r check.Reporter) { check.Int(r, "", api.Int{Neg: true, Mag: list{1}}, api.Int{Mag: list{1}}) }, true},
		{"a zero with a sign", func(r check.Reporter) { check.Int(r, "", api.Int{Neg: true}, api.Int{}) }, true},
		{"another size", func(r check.Reporter) { check.Int(r, "", api.Int{Mag: list{1, 2}}, api.Int{Mag: list{1, 3}}) }, true},
		{"equal lists of integers", func(r check.Reporter) { check.Ints(r, "", check.Nums(1, 0, -2), check.Nums(1, 0, -2)) }, false},
		{"no list and a list without integers", func(r check.Reporter) { check.Ints(r, "", nil, check.Nums()) }, false},
		{"a list with an integer more", func(r check.Reporter) { check.Ints(r, "", check.Nums(1, 0), check.Nums(1)) }, true},
		{"lists with another sign", func(r check.Reporter) { check.Ints(r, "", check.Nums(1, 2), check.Nums(1, -2)) }, true},
		{"lists with another size", func(r check.Reporter) { check.Ints(r, "", check.Nums(1, 2), check.Nums(1, 3)) }, true},
		{"a list with a sign beside 0", func(r check.Reporter) { check.Ints(r, "", []api.Int{check.Minus()}, check.Nums(0)) }, true},
		{"equal fractions", func(r check.Reporter) { check.Frac(r, "", check.Over(-1, 2), check.Over(-1, 2)) }, false},
		{"a fraction with another numerator", func(r check.Reporter) { check.Frac(r, "", check.Over(-1, 2), check.Over(1, 2)) }, true},
		{"a fraction with another denominator", func(r check.Reporter) { check.Frac(r, "", check.Over(0, 2), check.Over(0, 1)) }, true},
		{"equal matrices", func(r check.Reporter) { check.Mat(r, "", check.Matrix("1 -2; 0 4"), check.Matrix("1 -2; 0 4")) }, false},
		{"matrices without entries", func(r check.Reporter) { check.Mat(r, "", api.Mat{Rows: 2, At: []api.Int{}}, api.Mat{Rows: 2}) }, false},
		{"a matrix with other rows", func(r check.Reporter) { check.Mat(r, "", api.Mat{Rows: 2}, api.Mat{Rows: 3}) }, true},
		{"a matrix with other columns", func(r check.Reporter) { check.Mat(r, "", api.Mat{Cols: 2}, api.Mat{Cols: 3}) }, true},
		{"a matrix with another entry", func(r check.Reporter) { check.Mat(r, "", check.Matrix("1 2; 3 4"), check.Matrix("1 2; 3 5")) }, true},
		{"a matrix with an entry more", func(r check.Reporter) {
			check.Mat(r, "", api.Mat{Rows: 1, Cols: 1, At: check.Nums(1, 2)}, check.Matrix("1"))
		}, true},
		{"a matrix with a sign beside 0", func(r check.Reporter) {
			check.Mat(r, "", api.Mat{Rows: 1, Cols: 1, At: []api.Int{check.Minus()}}, check.Matrix("0"))
		}, true},
		{"an integer with a zero word more", func(r check.Reporter) { check.Int(r, "", api.Int{Mag: list{1, 0}}, api.Int{Mag: list{1}}) }, true},
	} {
		var r counter
		c.tell(&r)
		if (r.faults > 0) != c.faulty {
			t.Errorf("%s: %d faults told", c.name, r.faults)
		}
	}
}

func TestMemory(t *testing.T) {
	kept := list{1, 2, 3}
	for _, c := range []struct {
		name   string
		call   func(a, b list) list
		faulty bool
	}{
		{"a copy", func(a, b list) list { return append(list{}, a...) }, false},
		{"nothing", func(a, b list) list { return nil }, false},
		{"what was handed in", func(a, b list) list { return b }, true},
		{"spare room of what was handed in", func(a, b list) list { return b[len(b):] }, true},
		{"a changed argument", func(a, b list) list { a[0]++; return nil }, true},
		{"changed spare room", func(a, b list) list { _ = append(a, 7); return nil }, true},
		{"one answer for two calls", func(a, b list) list { return kept }, true},
	} {
		var r counter
		check.Memory(&r, map[string]func(a, b list) list{c.name: c.call}, []list{{5}, {6, 7}})
		if (r.faults > 0) != c.faulty {
			t.Errorf("%s: %d faults told", c.name, r.faults)
		}
	}
}

func TestIntMemory(t *testing.T) {
	for _, c := range []struct {
		name   string
		call   func(a, b api.Int) api.Int
		faulty bool
	}{
		{"a copy", func(a, b api.Int) api.Int { return api.Int{Mag: append(list{}, a.Mag...)} }, false},
		{"nothing", func(a, b api.Int) api.Int { return api.Int{} }, false},
		{"what was handed in", func(a, b api.Int) api.Int { return b }, true},
		{"what was handed in, for one pair of signs alone", func(a, b api.Int) api.Int {
			if a.Neg && !b.Neg {
				return a
			}
			return api.Int{}
		}, true},
		{"a changed argument", func(a, b api.Int) api.Int { b.Mag[0]++; return api.Int{} }, true},
	} {
		var r counter
		check.IntMemory(&r, map[string]func(a, b api.Int) api.Int{c.name: c.call}, []list{{5}, {6, 7}})
		if (r.faults > 0) != c.faulty {
			t.Errorf("%s: %d faults told", c.name, r.faults)
		}
	}
}

func TestListMemory(t *testing.T) {
	kept := check.Nums(1, 2)
	copied := func(list []api.Int) []api.Int {
		var all []api.Int
		for _, n := range list {
			all = append(all, api.Int{Neg: n.Neg, Mag: append([]uint64{}, n.Mag...)})
		}
		return all
	}
	for _, c := range []struct {
		name   string
		call   func(list []api.Int) []api.Int
		faulty bool
	}{
		{"a copy", copied, false},
		{"nothing", func(list []api.Int) []api.Int { return nil }, false},
		{"what was handed in", func(list []api.Int) []api.Int { return list }, true},
		{"spare room of what was handed in", func(list []api.Int) []api.Int { return list[len(list):] }, true},
		{"a list of its own with the words handed in", func(list []api.Int) []api.Int { return append([]api.Int{}, list...) }, true},
		{"a changed integer", func(list []api.Int) []api.Int { list[0].Mag[0]++; return nil }, true},
		{"a changed place", func(list []api.Int) []api.Int { list[0] = check.Plus(5); return nil }, true},
		{"a changed sign", func(list []api.Int) []api.Int { list[1].Neg = true; return nil }, true},
		{"changed spare room", func(list []api.Int) []api.Int { _ = append(list, check.Num(7)); return nil }, true},
		{"changed spare room of an integer", func(list []api.Int) []api.Int { _ = append(list[1].Mag, 7); return nil }, true},
		{"one answer for two calls", func(list []api.Int) []api.Int { return kept }, true},
		{"two copies", func(list []api.Int) []api.Int { return append(copied(list), copied(list)...) }, false},
		{"two integers of one memory", func(list []api.Int) []api.Int {
			all := copied(list)
			return append(all, all...)
		}, true},
	} {
		var r counter
		check.ListMemory(&r, map[string]func(list []api.Int) []api.Int{c.name: c.call}, [][]api.Int{{check.Minus(6, 0), check.Plus(7)}})
		if (r.faults > 0) != c.faulty {
			t.Errorf("%s: %d faults told", c.name, r.faults)
		}
	}
}

func TestMatMemory(t *testing.T) {
	for _, c := range []struct {
		name   string
		call   func(a, b api.Mat) []api.Int
		faulty bool
	}{
		{"nothing", func(a, b api.Mat) []api.Int { return nil }, false},
		{"numbers of its own", func(a, b api.Mat) []api.Int { return check.Nums(a.Rows, b.Cols, len(a.At)) }, false},
		{"the first matrix", func(a, b api.Mat) []api.Int { return a.At }, true},
		{"the second matrix", func(a, b api.Mat) []api.Int { return b.At }, true},
		{"the words of an entry", func(a, b api.Mat) []api.Int { return []api.Int{b.At[0]} }, true},
		{"a changed entry", func(a, b api.Mat) []api.Int { b.At[1] = check.Num(5); return nil }, true},
		{"a changed word", func(a, b api.Mat) []api.Int { a.At[0].Mag[0]++; return nil }, true},
		{"spare room of the first matrix", func(a, b api.Mat) []api.Int { _ = append(a.At, check.Num(7)); return nil }, true},
		{"spare room of the second matrix", func(a, b api.Mat) []api.Int { _ = append(b.At, check.Num(7)); return nil }, true},
		{"for one pair alone", func(a, b api.Mat) []api.Int {
			if a.Rows == 1 && b.Rows == 2 {
				return a.At
			}
			return nil
		}, true},
	} {
		var r counter
		check.MatMemory(&r, map[string]func(a, b api.Mat) []api.Int{c.name: c.call}, []api.Mat{check.Matrix("1 2"), check.Matrix("3; 4")})
		if (r.faults > 0) != c.faulty {
			t.Errorf("%s: %d faults told", c.name, r.faults)
		}
	}
}

func TestMatrices(t *testing.T) {
	check.Mat(t, "1 -2 3; 4 5 0", check.Matrix("1 -2 3; 4 5 0"), api.Mat{Rows: 2, Cols: 3, At: check.Nums(1, -2, 3, 4, 5, 0)})
	check.Mat(t, "7", check.Matrix("7"), api.Mat{Rows: 1, Cols: 1, At: check.Nums(7)})
	check.Mat(t, "0x3", check.Matrix("0x3"), api.Mat{Cols: 3})
	check.Mat(t, "12x0", check.Matrix("12x0"), api.Mat{Rows: 12})
	check.Ints(t, "Row", check.Row(" 1 -2  0 "), check.Nums(1, -2, 0))
	check.Ints(t, "Row of nothing", check.Row(""), nil)
	check.Mat(t, "Filled", check.Filled(2, 2, check.Nums(1, 2, 3)), check.Matrix("1 2; 3 1"))
	check.Mat(t, "Filled with nothing", check.Filled(0, 2, nil), check.Matrix("0x2"))
}

func TestIntegers(t *testing.T) {
	check.Int(t, "Num(0)", check.Num(0), api.Int{})
	check.Int(t, "Num(7)", check.Num(7), api.Int{Mag: list{7}})
	check.Int(t, "Num(-7)", check.Num(-7), api.Int{Neg: true, Mag: list{7}})
	check.Int(t, "Num of the least int", check.Num(math.MinInt), api.Int{Neg: true, Mag: list{check.High}})
	check.Ints(t, "Nums(0, -2)", check.Nums(0, -2), []api.Int{{}, {Neg: true, Mag: list{2}}})
	check.Frac(t, "Over(4, -6)", check.Over(4, -6), api.Frac{Num: api.Int{Mag: list{4}}, Den: api.Int{Neg: true, Mag: list{6}}})
	check.Ints(t, "Signs", check.Signs([]list{{2, 0}}), []api.Int{{Mag: list{2, 0}}, {Neg: true, Mag: list{2, 0}}})
	check.Same(t, "how many samples have at most two words", len(check.ShortSamples(2)), 1+5+25)
	for _, zero := range check.Zeros() {
		check.Same(t, "words of a zero that are not 0", slices.ContainsFunc(zero.Mag, func(w uint64) bool { return w != 0 }), false)
	}
}

func TestSieve(t *testing.T) {
	for _, c := range []struct {
		start int
		want  list
	}{
		{0, list{2, 3, 5, 7, 11, 13, 17, 19, 23, 29}}, {7, list{7, 11, 13, 17, 19, 23, 29, 31}}, {46337 * 46337, nil}, {1<<31 - 30, list{2147483629, 2147483647}},
	} {
		var primes list
		for i, prime := range check.Sieve(c.start, c.start+30) {
			if prime {
				primes = append(primes, uint64(c.start+i))
			}
		}
		check.Words(t, "Sieve", primes, c.want)
	}
}

func TestApart(t *testing.T) {
	whole := list{1, 2, 3, 4}
	for _, c := range []struct {
		name   string
		answer []list
		faulty bool
	}{
		{"no list", nil, false},
		{"one list", []list{whole}, false},
		{"lists of their own", []list{{1, 2}, {1, 2}, nil}, false},
		{"pieces with their ends fixed", []list{whole[:2:2], whole[2:]}, false},
		{"one list twice", []list{whole, whole}, true},
		{"a list in the spare room of another", []list{{7}, whole[:2], whole[2:]}, true},
		{"spare room of two", []list{whole[:0:2], whole[1:1]}, true},
	} {
		var r counter
		check.Apart(&r, c.name, c.answer...)
		if (r.faults > 0) != c.faulty {
			t.Errorf("%s: %d faults told", c.name, r.faults)
		}
	}
	check.Words(t, "what was held against R4", whole, list{1, 2, 3, 4})
}
