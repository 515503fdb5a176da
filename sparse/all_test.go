package sparse_test

import (
	"fmt"
	"iter"
	"slices"
	"testing"

	"trellis/api"
	"trellis/check"
	"trellis/sparse"
)

// told are the places that are given, with their numbers asked for on the way.
func told(t *testing.T, call string, all iter.Seq2[int, api.Place]) []api.Place {
	t.Helper()
	var places []api.Place
	for i, p := range all {
		check.Same(t, call+": number", i, len(places))
		places = append(places, p)
	}
	return places
}

// P10.8: All gives what Places has, again each time.
func TestAll(t *testing.T) {
	for _, g := range []*sparse.Grid{fresh(t, 0, 0), fresh(t, wide, wide), grid(t, "0 0; 0 0"), grid(t, "5"), grid(t, "1 0 2; 0 3 0"), grid(t, "0 -7; 0 0; 1 0"), filled(t, 1, 5000, most)} {
		want, all := g.Places(), g.All()
		for range 3 {
			holdPlaces(t, "All", told(t, "All", all), want)
		}
	}
}

// R6: it stops with the loop, and begins anew with the next one.
func TestAllStops(t *testing.T) {
	g := grid(t, "1 0 2; 0 3 4")
	all := g.All()
	for _, stopAfter := range []int{1, 2, 3, 1, 4, 9} {
		var got []int
		all(func(i int, p api.Place) bool {
			got = append(got, i)
			return len(got) < stopAfter
		})
		if want := []int{0, 1, 2, 3}[:min(stopAfter, 4)]; !slices.Equal(got, want) {
			t.Errorf("stopped after %d: %v, want %v", stopAfter, got, want)
		}
	}
}

// R6: one loop runs within another, and two by turns, each from the beginning.
func TestAllNested(t *testing.T) {
	g := grid(t, "1 0 2; 0 3 4")
	want, all := g.Places(), g.All()
	n := 0
	for i, p := range all {
		holdPlaces(t, "outside", []api.Place{p}, want[i:i+1])
		holdPlaces(t, "inside", told(t, "inside", all), want)
		n++
	}
	check.Same(t, "places outside", n, 4)
	one, stopOne := iter.Pull2(all)
	defer stopOne()
	other, stopOther := iter.Pull2(all)
	defer stopOther()
	for i := range want {
		for _, pull := range []func() (int, api.Place, bool){one, other} {
			number, p, ok := pull()
			check.Same(t, "by turns: is there a place", ok, true)
			check.Same(t, "by turns: number", number, i)
			holdPlaces(t, "by turns", []api.Place{p}, want[i:i+1])
		}
	}
}

// changes are what may be done to a grid of at least 2 rows and 2 columns.
func changes() map[string]func(g *sparse.Grid) {
	return map[string]func(g *sparse.Grid){
		"Set":              func(g *sparse.Grid) { g.Set(0, 0, num(9)) },
		"Set to 0":         func(g *sparse.Grid) { g.Set(1, 1, num(0)) },
		"Set of a new one": func(g *sparse.Grid) { g.Set(0, 1, minus(0, 1)) },
		"AddRow":           func(g *sparse.Grid) { g.AddRow(0, 1, num(2)) },
		"AddRow of one":    func(g *sparse.Grid) { g.AddRow(1, 1, num(-1)) },
		"Swap":             func(g *sparse.Grid) { g.Swap(0, 1) },
		"Clear":            func(g *sparse.Grid) { g.Clear(0) },
		"all that there is": func(g *sparse.Grid) {
			rows, cols := g.Shape()
			for i := range rows {
				for j := range cols {
					g.Set(i, j, num(i-j))
				}
			}
		},
	}
}

// P10.8: what is done to the grid after the call changes nothing, be it ahead of the loop, in it or after it.
func TestAllHangsOnTheCall(t *testing.T) {
	for name, change := range changes() {
		g := grid(t, "1 0 2; 0 3 4")
		want, all := g.Places(), g.All()
		change(g)
		holdPlaces(t, name+" ahead of the loop", told(t, name, all), want)
		after := g.Places()
		holdPlaces(t, name+": a new All", told(t, name, g.All()), after)
		for stop := range 4 {
			g = grid(t, "1 0 2; 0 3 4")
			all = g.All()
			var got []api.Place
			for i, p := range all {
				got = append(got, p)
				if i == stop {
					change(g)
				}
			}
			holdPlaces(t, fmt.Sprintf("%s in the loop, at %d", name, stop), got, want)
			holdPlaces(t, name+" in the loop, and gone over again", told(t, name, all), want)
			holdPlaces(t, name+" in the loop: the grid", g.Places(), after)
		}
	}
}

// P10.8, example 6: the loop empties the grid that it goes through, a full one too.
func TestAllEmpties(t *testing.T) {
	for _, g := range []*sparse.Grid{grid(t, "1 2; 3 4"), fresh(t, 3, 3), filled(t, 1, wide, most)} {
		want, n := stateOf(g), 0
		for i, p := range g.All() {
			check.Same(t, "number", i, n)
			holdPlaces(t, "All", []api.Place{p}, want.at[i:i+1])
			check.Same(t, "Set to 0", g.Set(p.Row, p.Col, api.Int{}), api.OK)
			n++
		}
		check.Same(t, "places", n, len(want.at))
		hold(t, "an emptied grid", g, plain{rows: want.rows, cols: want.cols})
	}
}

// P10.8, R4: each integer is new memory, each time.
func TestAllOwnIntegers(t *testing.T) {
	a := check.Filled(3, 4, check.Integers())
	g := made(t, "Of")(sparse.Of(a))
	want, all := plainOf(a), g.All()
	for range 3 {
		i := 0
		for _, p := range all {
			holdPlaces(t, "All", []api.Place{p}, want.at[i:i+1])
			check.Spoil([]api.Int{p.Val})
			i++
		}
		check.Same(t, "places", i, len(want.at))
		hold(t, "the grid", g, want)
	}
	kept := slices.Concat(told(t, "All", all), told(t, "All", all))
	check.Apart(t, "All, kept", append(sizes(kept), g.Kept()...)...)
}

// sizes are the lists of words of places.
func sizes(places []api.Place) [][]uint64 {
	var all [][]uint64
	for _, p := range places {
		all = append(all, p.Val.Mag)
	}
	return all
}
