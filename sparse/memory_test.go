package sparse_test

import (
	"fmt"
	"iter"
	"slices"
	"testing"

	"trellis/api"
	"trellis/check"
	"trellis/sparse"
)

// values are the integers of places.
func values(places []api.Place) []api.Int {
	var all []api.Int
	for _, p := range places {
		all = append(all, p.Val)
	}
	return all
}

// given are the integers that an iterator gives.
func given(all iter.Seq2[int, api.Place]) []api.Int {
	var list []api.Int
	for _, p := range all {
		list = append(list, p.Val)
	}
	return list
}

// readers are the calls that answer a grid's integers.
func readers() map[string]func(g *sparse.Grid) []api.Int {
	return map[string]func(g *sparse.Grid) []api.Int{
		"Places": func(g *sparse.Grid) []api.Int { return values(g.Places()) },
		"All":    func(g *sparse.Grid) []api.Int { return given(g.All()) },
		"Dense": func(g *sparse.Grid) []api.Int {
			a, _ := g.Dense()
			return a.At
		},
		"Get": func(g *sparse.Grid) []api.Int {
			var list []api.Int
			rows, cols := g.Shape()
			for i := range rows {
				for j := range cols {
					n, _ := g.Get(i, j)
					list = append(list, n)
				}
			}
			return list
		},
	}
}

// numbers are such as a copy may be saved for, and such as are in no least form.
func numbers() []api.Int {
	return []api.Int{num(1), minus(0, 0), plus(6, 0), num(-1), num(0), minus(0, 1), plus(append(check.Mixed(5, 4), 0)...)}
}

// makers make a grid of what is handed in, two matrices and a number, by each call that takes or makes something; a nil one, where shapes do not go together.
func makers() map[string]func(a, b api.Mat, k api.Int) *sparse.Grid {
	of := func(a api.Mat) *sparse.Grid {
		g, _ := sparse.Of(a)
		return g
	}
	return map[string]func(a, b api.Mat, k api.Int) *sparse.Grid{
		"Of": func(a, b api.Mat, k api.Int) *sparse.Grid { return of(a) },
		"Set": func(a, b api.Mat, k api.Int) *sparse.Grid {
			g, _ := sparse.New(a.Rows, a.Cols)
			for i, n := range a.At {
				g.Set(i/a.Cols, i%a.Cols, n)
			}
			return g
		},
		"Set everywhere": func(a, b api.Mat, k api.Int) *sparse.Grid {
			g := of(a)
			for i := range a.At {
				g.Set(i/a.Cols, i%a.Cols, k)
			}
			return g
		},
		"AddRow": func(a, b api.Mat, k api.Int) *sparse.Grid {
			g := of(a)
			g.AddRow(0, 1, k)
			return g
		},
		"AddRow of one": func(a, b api.Mat, k api.Int) *sparse.Grid {
			g := of(a)
			g.AddRow(0, 0, k)
			return g
		},
		"AddRow to zeros": func(a, b api.Mat, k api.Int) *sparse.Grid {
			g := of(a)
			g.Clear(1)
			g.AddRow(1, 0, k)
			return g
		},
		"Swap": func(a, b api.Mat, k api.Int) *sparse.Grid {
			g := of(a)
			g.Swap(0, 1)
			return g
		},
		"Mul": func(a, b api.Mat, k api.Int) *sparse.Grid {
			p, _ := of(a).Mul(of(b))
			return p
		},
		"Add": func(a, b api.Mat, k api.Int) *sparse.Grid {
			s, _ := of(a).Add(of(b))
			return s
		},
		"Turn": func(a, b api.Mat, k api.Int) *sparse.Grid { return of(a).Turn() },
		"Copy": func(a, b api.Mat, k api.Int) *sparse.Grid { return of(a).Copy() },
	}
}

// R4: what is handed in stays as it is, spare room included, and what is told in the end has memory of its own, its spare room too.
func TestMemory(t *testing.T) {
	var all []api.Mat
	for rows := range 3 {
		for cols := range 3 {
			all = append(all, check.Filled(rows, cols, numbers()), check.Filled(rows, cols, numbers()[3:]))
		}
	}
	calls := map[string]func(a, b api.Mat) []api.Int{}
	for maker, build := range makers() {
		for reader, read := range readers() {
			calls[maker+", "+reader] = func(a, b api.Mat) []api.Int {
				// The number is an entry of what is handed in, wherever there is one.
				k := slices.Concat(b.At, a.At, nums(1))[0]
				return read(build(a, b, k))
			}
		}
	}
	check.MatMemory(t, calls, all)
}

// R4: a grid keeps copies: what becomes of what was handed in, or of what it answered, changes nothing in it.
func TestGridsKeepCopies(t *testing.T) {
	for maker, build := range makers() {
		for reader, read := range readers() {
			for i, k := range numbers() {
				call := fmt.Sprintf("%s with number %d, %s", maker, i, reader)
				square := func(from int) api.Mat {
					return api.Mat{Rows: 2, Cols: 2, At: check.Roomy(check.Filled(2, 2, numbers()[from:]).At)}
				}
				want := stateOf(build(square(0), square(3), k))
				a, b, number := square(0), square(3), check.Roomy([]api.Int{k})
				g := build(a, b, number[0])
				check.Spoil(a.At)
				check.Spoil(b.At)
				check.Spoil(number)
				hold(t, call+": what was handed in has changed", g, want)
				check.Spoil(read(g))
				hold(t, call+": what was answered has changed", g, want)
			}
		}
	}
}

// R4: the list of places is new memory itself, its spare room too.
func TestPlacesAreOwn(t *testing.T) {
	g := grid(t, "1 0 2; 0 3 4")
	want := stateOf(g)
	all, second := g.All(), g.Places()
	first := g.Places()
	for i, p := range first[:cap(first)] {
		check.Spoil([]api.Int{p.Val})
		first[:cap(first)][i] = at(-1, -2, 77)
	}
	holdPlaces(t, "a second list", second, want.at)
	holdPlaces(t, "All", told(t, "All", all), want.at)
	hold(t, "the grid", g, want)
}

// words are the lists of words of integers.
func words(list []api.Int) [][]uint64 {
	var all [][]uint64
	for _, n := range list {
		all = append(all, n.Mag)
	}
	return all
}

// R4: no words that a grid keeps are those of another grid, of what was handed in, of what was answered, or of another of its places.
func TestWordsApart(t *testing.T) {
	for maker, build := range makers() {
		for i, k := range numbers() {
			a, b := check.Filled(2, 2, numbers()), check.Filled(2, 2, numbers()[3:])
			a.At, b.At = check.Roomy(a.At), check.Roomy(b.At)
			number := check.Roomy([]api.Int{k})
			one, other := build(a, b, number[0]), build(a, b, number[0])
			all := slices.Concat(words(a.At), words(b.At), words(number), one.Kept(), other.Kept())
			for _, read := range readers() {
				all = append(all, words(read(one))...)
			}
			check.Apart(t, fmt.Sprintf("%s with number %d", maker, i), all...)
		}
	}
}

// R4: a grid that is made of others shares no words with them.
func TestGridsApart(t *testing.T) {
	for name, answer := range answers(t) {
		for done, change := range changes() {
			g := made(t, "Of")(sparse.Of(check.Filled(2, 2, numbers()[5:])))
			h := grid(t, "0 5; 6 7")
			answered := answer(g, h)
			call := name + ", " + done
			check.Apart(t, call, slices.Concat(g.Kept(), h.Kept(), answered.Kept())...)
			change(g)
			change(answered)
			check.Apart(t, call, slices.Concat(g.Kept(), h.Kept(), answered.Kept())...)
		}
	}
}

// R4 where what is refused is handed in: it stays as it is, and so does the grid.
func TestRefusedMemory(t *testing.T) {
	full := filled(t, 2, 5000, most)
	before := stateOf(full)
	calls := map[string]func(list []api.Int) []api.Int{
		"Set":            func(list []api.Int) []api.Int { return nums(int(full.Set(0, 4999, list[0]))) },
		"Set outside":    func(list []api.Int) []api.Int { return nums(int(full.Set(2, 0, list[0]))) },
		"AddRow":         func(list []api.Int) []api.Int { return nums(int(full.AddRow(1, 0, list[0]))) },
		"AddRow outside": func(list []api.Int) []api.Int { return nums(int(full.AddRow(2, 0, list[0]))) },
		"Of": func(list []api.Int) []api.Int {
			_, e := sparse.Of(api.Mat{Rows: 2, Cols: 3, At: list})
			return nums(int(e))
		},
	}
	check.ListMemory(t, calls, [][]api.Int{{plus(5, 0)}, {minus(0, 1), num(2)}})
	hold(t, "after what was refused", full, before)
}
