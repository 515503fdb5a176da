package modp_test

import (
	"fmt"
	"slices"
	"testing"

	"trellis/api"
	"trellis/check"
	"trellis/modp"
)

// numbers are residues already, and such as are not, and such as are in no least form.
func numbers() []api.Int {
	return []api.Int{num(1), minus(0, 0), plus(6, 0), num(-1), num(0), minus(0, 1), plus(append(check.Mixed(5, 4), 0)...)}
}

// listOf is Solve at the matrix and as many numbers of the list as it has columns, if there are so many.
func listOf(a api.Mat, list []api.Int, p uint64) []api.Int {
	x, e := modp.Solve(a, list[:min(a.Cols, len(list))], p)
	return slices.Concat(x, nums(int(e)))
}

// R4: what is handed in stays as it is, spare room included, and an answer has memory of its own, its spare room too.
func TestMemory(t *testing.T) {
	calls := map[string]func(a, b api.Mat) []api.Int{}
	for _, p := range []uint64{2, 7, greatest, 4} {
		for name, call := range takers() {
			calls[fmt.Sprintf("%s modulo %d", name, p)] = func(a, b api.Mat) []api.Int {
				got, _ := call(a, p)
				return got.At
			}
		}
		calls[fmt.Sprintf("Solve modulo %d", p)] = func(a, b api.Mat) []api.Int { return listOf(a, b.At, p) }
		calls[fmt.Sprintf("Solve of the matrix's own modulo %d", p)] = func(a, b api.Mat) []api.Int { return listOf(a, a.At, p) }
		calls[fmt.Sprintf("Solve that does not fit modulo %d", p)] = func(a, b api.Mat) []api.Int {
			x, e := modp.Solve(a, slices.Concat(b.At, make([]api.Int, a.Cols+1)), p)
			return append(x, num(int(e)))
		}
		calls[fmt.Sprintf("Echelon of what is not sound modulo %d", p)] = func(a, b api.Mat) []api.Int {
			a.Rows++
			a.Cols++
			got, _ := modp.Echelon(a, p)
			return got.At
		}
	}
	all := []api.Mat{
		mx("0x0"), mx("0x2"), mx("2x0"), mx("1"), mx("0"), mx("0 1; 1 0"), mx("1 0; 0 1"), mx("1 2; 2 4"),
		check.Filled(2, 2, numbers()), check.Filled(3, 3, numbers()), check.Filled(3, 2, numbers()[2:]), check.Filled(1, 7, numbers()), check.Filled(7, 1, numbers()),
	}
	check.MatMemory(t, calls, all)
}

// R4: b's own list stays as it is, spare room included, where there is room for more.
func TestMemoryOfRoomyList(t *testing.T) {
	for _, a := range []api.Mat{mx("1 2; 3 4; 5 6"), mx("0x2"), mx("1 2")} {
		b := check.Roomy(nums(2, 4))
		whole := check.Roomy(nums(2, 4))
		modp.Solve(a, b, 7)
		check.Ints(t, of("Solve: what was handed in and its room", a, 7), b[:cap(whole)], whole[:cap(whole)])
	}
}

// R4: two lists of numbers that have the same words.
func TestOverlap(t *testing.T) {
	words := []uint64{1, 0, 2, 3, 0}
	ints := []api.Int{plus(words[:2]...), minus(words[1:3]...), plus(words[2:4]...), minus(words[3:]...), plus(words...)}
	a := api.Mat{Rows: 2, Cols: 2, At: ints[:4]}
	got, e := modp.Reduce(a, 7)
	// 2^64 is 2 modulo 7; what b's pieces stand for is 4 and 5.
	hold(t, "Reduce of pieces", got, e, mx("1 3; 1 4"))
	x, e := modp.Solve(a, ints[3:], 7)
	holdRow(t, "Solve of pieces", x, e, nums(4, 0))
	check.Words(t, "what was handed in", words, []uint64{1, 0, 2, 3, 0})
}
