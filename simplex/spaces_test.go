package simplex_test

import (
	"slices"
	"strings"
	"testing"

	"trellis/api"
	"trellis/check"
	"trellis/made"
	"trellis/zint"
)

// Complexes whose homology is known.

// moved are the facets with other vertices, as a rule says.
func moved(facets [][]int, to func(v int) int) [][]int {
	var all [][]int
	for _, facet := range facets {
		var other []int
		for _, v := range facet {
			other = append(other, to(v))
		}
		all = append(all, other)
	}
	return all
}

// beside are complexes that have no vertex in common; each has fewer than 100.
func beside(list ...[][]int) [][]int {
	var all [][]int
	for i, facets := range list {
		all = append(all, moved(facets, func(v int) int { return 100*i + v })...)
	}
	return all
}

// at0 are complexes that have the vertex 0 alone in common.
func at0(list ...[][]int) [][]int {
	return moved(beside(list...), func(v int) int {
		if v%100 == 0 {
			return 0
		}
		return v
	})
}

// joinedTo are the facets of a complex, each with each of another; all vertices are below 50.
func joinedTo(one, two [][]int) [][]int {
	var all [][]int
	for _, f := range one {
		for _, g := range moved(two, func(v int) int { return v + 50 }) {
			all = append(all, slices.Concat(f, g))
		}
	}
	return all
}

// suspended is a complex with two points, each joined to all of it.
func suspended(facets [][]int) [][]int { return joinedTo(facets, cx("0, 1")) }

// torus is the one of seven vertices.
func torus() [][]int {
	var all [][]int
	for v := range 7 {
		all = append(all, []int{v, (v + 1) % 7, (v + 3) % 7}, []int{v, (v + 2) % 7, (v + 3) % 7})
	}
	return all
}

// grid is a square of three by three little ones, each cut in two; its upper and lower sides are one, and so are its right and left, turned over if it is twisted.
func grid(twisted bool) [][]int {
	at := func(i, j int) int {
		if i == 3 && twisted {
			j = 6 - j
		}
		return i%3*3 + j%3
	}
	var all [][]int
	for i := range 3 {
		for j := range 3 {
			all = append(all, []int{at(i, j), at(i+1, j), at(i+1, j+1)}, []int{at(i, j), at(i, j+1), at(i+1, j+1)})
		}
	}
	return all
}

// moore is a disc whose edge is laid n times round a circle of the vertices 0, 1, 2.
func moore(n int) [][]int {
	var all [][]int
	inner := func(i int) int { return 3 + i%(3*n) }
	for i := range 3 * n {
		all = append(all, []int{i % 3, inner(i), inner(i + 1)}, []int{i % 3, (i + 1) % 3, inner(i + 1)}, []int{inner(i), inner(i + 1), 3 + 3*n})
	}
	return all
}

// glued is the projective plane and the disc whose edge is laid four times round, with one triangle in common: apart they would have too many edges.
func glued() [][]int {
	ofPlane := []int{0, 1, 4, 100, 101, 102}
	return slices.Concat(moore(4), moved(cx(plane), func(v int) int { return ofPlane[v] }))
}

// P24.3 to P24.7: the ranks and the torsion of each dimension, from 0 on.
func TestSpaces(t *testing.T) {
	for _, c := range []struct {
		name   string
		facets [][]int
		want   string
	}{
		{"a point", cx("0"), "1"}, {"a point far off", cx("999"), "1"}, {"two points", cx("0, 999"), "2"}, {"an edge", cx("3 1"), "1; 0"}, {"an edge and a point", cx("0 1, 5"), "2; 0"}, {"a path", cx("9 5, 5 7, 7 0"), "1; 0"},
		{"64 points", points(64), "64"}, {"a triangle's edges", cx("0 1, 1 2, 0 2"), "1; 1"}, {"a triangle", cx("2 0 1"), "1; 0; 0"}, {"a ring of 64", ring(64), "1; 1"}, {"two rings", beside(ring(3), ring(5)), "2; 2"}, {"two rings at a vertex", at0(ring(4), ring(5)), "1; 2"}, {"all edges of 11", sets(11, 2, 55), "1; 45"}, {"64 edges of 12", sets(12, 2, 64), "1; 53"},
		{"the surface of a tetrahedron", sets(4, 3, 4), "1; 0; 1"}, {"a tetrahedron", cx("5 999 0 17"), "1; 0; 0; 0"}, {"two triangles at an edge", cx("0 1 2, 1 2 3"), "1; 0; 0"}, {"a triangle and a ring at a vertex", at0(cx("0 1 2"), ring(3)), "1; 1; 0"}, {"four triangles round nothing", cx("0 1 4, 1 4 5, 1 2 5, 2 5 6, 2 3 6, 3 6 7, 0 3 7, 0 4 7"), "1; 1; 0"},
		{"the sphere of dimension 3", sets(5, 4, 5), "1; 0; 0; 1"}, {"the sphere of dimension 4", sets(6, 5, 6), "1; 0; 0; 0; 1"}, {"the sphere of dimension 5", sets(7, 6, 7), "1; 0; 0; 0; 0; 1"}, {"seven vertices", sets(7, 7, 1), "1; 0; 0; 0; 0; 0; 0"}, {"all triangles of 6", sets(6, 3, 20), "1; 0; 10"}, {"64 tetrahedra of 8", sets(8, 4, 64), "1; 0; 0; 29"}, {"an octahedron", joinedTo(cx("0, 1"), joinedTo(cx("0, 1"), cx("0, 1"))), "1; 0; 1"},
		{"a torus", torus(), "1; 2; 1"}, {"a torus of nine", grid(false), "1; 2; 1"}, {"a bottle", grid(true), "1; 1 2; 0"}, {"a band", cx("0 1 2, 1 2 3, 2 3 4, 0 3 4, 0 1 4"), "1; 1; 0"}, {"the projective plane", cx(plane), "1; 0 2; 0"},
		{"once round", moore(1), "1; 0; 0"}, {"twice round", moore(2), "1; 0 2; 0"}, {"three times round", moore(3), "1; 0 3; 0"}, {"four times round", moore(4), "1; 0 4; 0"}, {"five times round", moore(5), "1; 0 5; 0"},
		{"two planes", beside(cx(plane), cx(plane)), "2; 0 2 2; 0"}, {"two planes at a vertex", at0(cx(plane), cx(plane)), "1; 0 2 2; 0"}, {"four planes", beside(cx(plane), cx(plane), cx(plane), cx(plane)), "4; 0 2 2 2 2; 0"}, {"three planes at a vertex", at0(cx(plane), cx(plane), cx(plane)), "1; 0 2 2 2; 0"}, {"a plane and three times round", beside(cx(plane), moore(3)), "2; 0 6; 0"}, {"a plane and a bottle", at0(cx(plane), grid(true)), "1; 1 2 2; 0"}, {"a plane and four times round", glued(), "1; 0 2 4; 0"}, {"a plane, a ring and a point", beside(cx(plane), ring(30), cx("0")), "3; 1 2; 0"},
		{"a suspended ring", suspended(ring(3)), "1; 0; 1"}, {"suspended points", suspended(points(16)), "1; 15"}, {"a suspended plane", suspended(cx(plane)), "1; 0; 0 2; 0"}, {"a suspended torus", suspended(torus()), "1; 0; 2; 1"}, {"a plane's suspension and a plane", at0(suspended(cx(plane)), cx(plane)), "1; 0 2; 0 2; 0"}, {"rings joined", joinedTo(ring(3), ring(3)), "1; 0; 0; 1"}, {"points joined", joinedTo(points(8), points(8)), "1; 49"},
	} {
		all := holdComplex(t, c.facets)
		var want []homology
		for text := range strings.SplitSeq(c.want, ";") {
			numbers := row(text)
			want = append(want, homology{int(append(numbers[0].Mag, 0)[0]), numbers[1:]})
		}
		check.Same(t, c.name+": how many dimensions", len(all), len(want))
		for k, h := range want {
			holdAnswered(t, c.facets, k, h.rank, h.torsion)
		}
	}
}

// P24.3: what is known of the homology between matrices.
func TestPairs(t *testing.T) {
	for _, c := range []struct {
		a, b    string
		rank    int
		torsion string
	}{
		{"0x0", "0x0", 0, ""}, {"3x0", "0x2", 0, ""}, {"3x0", "0x0", 0, ""}, {"0x1", "1x0", 1, ""}, {"0x3", "3x0", 3, ""}, {"0x64", "64x0", 64, ""}, {"0x2", "0 0; 0 0", 2, ""}, {"0x2", "1; 1", 1, ""}, {"0x2", "1 0; 0 1", 0, ""}, {"0x3", "1 2; 2 4; 0 0", 2, ""}, {"0x1", "2147483647", 0, ""}, {"0x2", "2147483629 0; 0 2147483647", 0, ""}, {"2147483647", "0", 0, "2147483647"},
		{"1", "0", 0, ""}, {"-1", "1x0", 0, ""}, {"0", "1x0", 1, ""}, {"0", "7", 0, ""}, {"2", "0 0", 0, "2"}, {"-6", "0", 0, "6"}, {"4; 6", "1x0", 0, "2"}, {"4; 0", "1x0", 0, "4"}, {"0; 0", "1x0", 1, ""},
		{"2 -2", "1; 1", 0, "2"}, {"2 -2", "2x0", 1, "2"}, {"6 -4", "2; 3", 0, "2"}, {"0 0", "1; 0", 1, ""}, {"0 5", "-1; 0", 0, "5"}, {"3 -3; 5 -5", "1; 1", 0, ""}, {"6 -6; 10 -10", "4; 4", 0, "2"},
		{"2 0; 0 3", "2x0", 0, "6"}, {"4 0; 0 6", "0; 0", 0, "2 12"}, {"2 4; 6 8", "2x0", 0, "2 4"}, {"4 0 0; 0 6 0", "3x0", 1, "2 12"}, {"4 0 0; 0 6 0", "0; 0; 1", 0, "2 12"}, {"1 2 3; 4 5 6; 7 8 9", "1; -2; 1", 0, "3"}, {"1 2 3; 4 5 6; 7 8 9", "3x0", 1, "3"}, {"2 0 0; 0 2 0; 0 0 2", "0; 0; 0", 0, "2 2 2"}, {"30 0; 0 42; 0 0", "0 0; 0 0", 0, "6 210"}, {"1 -1 0 0; 0 0 2 -2", "1 0; 1 0; 0 1; 0 1", 0, "2"}, {"0 0 9 0", "1 0; 0 1; 0 0; 0 0", 1, "9"},
	} {
		a, b := mx(c.a), mx(c.b)
		holdGroup(t, a, b, c.rank, row(c.torsion))
		holdGroup(t, made.Disguised(a), made.Disguised(b), c.rank, row(c.torsion))
	}
}

// P24.3: each integer alone, in whatever form, before no columns and behind no rows.
func TestSingles(t *testing.T) {
	for _, n := range append(check.Integers(), check.Zeros()...) {
		one := api.Mat{Rows: 1, Cols: 1, At: []api.Int{n}}
		rank, torsion := 0, []api.Int(nil)
		switch size := zint.Least(n); {
		case len(size.Mag) == 0:
			rank = 1
		case len(size.Mag) > 1 || size.Mag[0] > 1:
			torsion = []api.Int{{Mag: size.Mag}}
		}
		holdGroup(t, one, mx("1x0"), rank, torsion)
		holdGroup(t, one, api.Mat{Rows: 1, Cols: 1, At: check.Zeros()[:1]}, rank, torsion)
		holdGroup(t, mx("0x1"), one, rank, nil)
	}
}
