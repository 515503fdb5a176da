package check_test

import (
	"testing"

	"trellis/api"
	"trellis/check"
)

func TestHoldingFractionsAgainst(t *testing.T) {
	row, mx := check.FracRow, check.FracMatrix
	for _, c := range []struct {
		name   string
		tell   func(r check.Reporter)
		faulty bool
	}{
		{"equal lists", func(r check.Reporter) { check.Fracs(r, "", row("1/2 0 -3"), row("1/2 0 -3")) }, false},
		{"no list and a list without fractions", func(r check.Reporter) { check.Fracs(r, "", nil, []api.Frac{}) }, false},
		{"a list with a fraction more", func(r check.Reporter) { check.Fracs(r, "", row("1 0"), row("1")) }, true},
		{"lists with another numerator", func(r check.Reporter) { check.Fracs(r, "", row("1/2 1/3"), row("1/2 -1/3")) }, true},
		{"lists with other terms", func(r check.Reporter) { check.Fracs(r, "", row("1/2 0/3"), row("1/2 0")) }, true},
		{"a zero with a sign", func(r check.Reporter) {
			check.Fracs(r, "", []api.Frac{{Num: check.Minus(), Den: check.Num(1)}}, row("0"))
		}, true},
		{"equal matrices", func(r check.Reporter) { check.QMat(r, "", mx("1 -2/3; 0 4"), mx("1 -2/3; 0 4")) }, false},
		{"matrices without entries", func(r check.Reporter) { check.QMat(r, "", api.QMat{Rows: 2, At: []api.Frac{}}, mx("2x0")) }, false},
		{"a matrix with other rows", func(r check.Reporter) { check.QMat(r, "", mx("2x0"), mx("3x0")) }, true},
		{"a matrix with other columns", func(r check.Reporter) { check.QMat(r, "", mx("0x2"), mx("0x3")) }, true},
		{"a matrix with another entry", func(r check.Reporter) { check.QMat(r, "", mx("1 2; 3 4"), mx("1 2; 3 4/3")) }, true},
		{"a matrix with an entry more", func(r check.Reporter) { check.QMat(r, "", api.QMat{Rows: 1, Cols: 1, At: row("1 2")}, mx("1")) }, true},
	} {
		var r counter
		c.tell(&r)
		if (r.faults > 0) != c.faulty {
			t.Errorf("%s: %d faults told", c.name, r.faults)
		}
	}
}

func TestFractions(t *testing.T) {
	check.Fracs(t, "FracRow", check.FracRow(" 4/-6 -2  0/5 "), []api.Frac{check.Over(4, -6), check.Over(-2, 1), check.Over(0, 5)})
	check.Fracs(t, "FracRow of nothing", check.FracRow(""), nil)
	check.QMat(t, "1/2 3; -4 0", check.FracMatrix("1/2 3; -4 0"), api.QMat{Rows: 2, Cols: 2, At: check.FracRow("1/2 3 -4 0")})
	check.QMat(t, "7", check.FracMatrix("7"), api.QMat{Rows: 1, Cols: 1, At: check.FracRow("7")})
	check.QMat(t, "12x3", check.FracMatrix("12x3"), api.QMat{Rows: 12, Cols: 3})
}

// copied has memory of its own.
func copied(list []api.Frac) []api.Frac {
	return append([]api.Frac{}, check.RoomyFracs(list)...)
}

func TestQMatMemory(t *testing.T) {
	kept := check.FracRow("1/2")
	for _, c := range []struct {
		name   string
		call   func(p, q api.QMat) []api.Frac
		faulty bool
	}{
		{"nothing", func(p, q api.QMat) []api.Frac { return nil }, false},
		{"fractions of its own", func(p, q api.QMat) []api.Frac { return append(copied(p.At), copied(q.At)...) }, false},
		{"the first matrix", func(p, q api.QMat) []api.Frac { return p.At }, true},
		{"the second matrix", func(p, q api.QMat) []api.Frac { return q.At }, true},
		{"spare room of the second matrix", func(p, q api.QMat) []api.Frac { return q.At[len(q.At):] }, true},
		{"a list of its own with the words handed in", func(p, q api.QMat) []api.Frac { return append([]api.Frac{}, p.At...) }, true},
		{"the words of a numerator", func(p, q api.QMat) []api.Frac { return []api.Frac{{Num: q.At[0].Num, Den: check.Num(1)}} }, true},
		{"the words of a denominator", func(p, q api.QMat) []api.Frac { return []api.Frac{{Num: check.Num(1), Den: p.At[1].Den}} }, true},
		{"two integers of one memory", func(p, q api.QMat) []api.Frac {
			n := check.Num(1)
			return []api.Frac{{Num: n, Den: n}}
		}, true},
		{"one answer for two calls", func(p, q api.QMat) []api.Frac { return kept }, true},
		{"a changed entry", func(p, q api.QMat) []api.Frac { q.At[1] = check.Over(5, 7); return nil }, true},
		{"a changed word of a numerator", func(p, q api.QMat) []api.Frac { p.At[0].Num.Mag[0]++; return nil }, true},
		{"a changed word of a denominator", func(p, q api.QMat) []api.Frac { q.At[0].Den.Mag[0]++; return nil }, true},
		{"a changed sign", func(p, q api.QMat) []api.Frac { q.At[1].Den.Neg = true; return nil }, true},
		{"changed spare room of the first matrix", func(p, q api.QMat) []api.Frac { _ = append(p.At, check.Over(7, 1)); return nil }, true},
		{"changed spare room of the second matrix", func(p, q api.QMat) []api.Frac { _ = append(q.At, check.Over(7, 1)); return nil }, true},
		{"changed spare room of a denominator", func(p, q api.QMat) []api.Frac { _ = append(q.At[0].Den.Mag, 7); return nil }, true},
		{"for one pair alone", func(p, q api.QMat) []api.Frac {
			if p.Rows == 1 && q.Rows == 2 {
				return p.At
			}
			return nil
		}, true},
	} {
		var r counter
		check.QMatMemory(&r, map[string]func(p, q api.QMat) []api.Frac{c.name: c.call}, []api.QMat{check.FracMatrix("1/2 2"), check.FracMatrix("3/-5; 4")})
		if (r.faults > 0) != c.faulty {
			t.Errorf("%s: %d faults told", c.name, r.faults)
		}
	}
}
