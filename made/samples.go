package made

import (
	"trellis/api"
	"trellis/check"
	"trellis/mat"
)

// Samples are matrices of all ranks, shapes that are not square among them, with numbers in least form and in no least form, 0 and -1 and long ones.
func Samples() []api.Mat {
	long := check.Plus(append(check.Mixed(5, 4), 0)...)
	numbers := []api.Int{check.Num(1), check.Minus(0, 0), check.Plus(6, 0), check.Num(-1), check.Num(0), check.Minus(0, 1), long}
	unit, _ := mat.Unit(4)
	all := []api.Mat{unit, check.Filled(3, 2, numbers[2:])}
	for _, text := range []string{"0x0", "0x2", "2x0", "1", "0", "-7", "0 1; 1 0", "1 0; 0 1", "1 2; 2 4", "0 0; 0 0", "0 0 2; 0 3 0; 5 0 0"} {
		all = append(all, check.Matrix(text))
	}
	for _, shape := range [][2]int{{2, 2}, {3, 3}, {1, 7}, {7, 1}, {4, 4}, {5, 5}} {
		all = append(all, check.Filled(shape[0], shape[1], numbers))
	}
	return all
}

// Shapes are shapes of up to 64 rows and columns, with ranks.
func Shapes() [][3]int {
	var all [][3]int
	for _, rows := range []int{1, 2, 3, 5, 14} {
		for _, cols := range []int{1, 2, 3, 5, 14} {
			for part := range 4 {
				all = append(all, [3]int{rows, cols, min(rows, cols) * part / 3})
			}
		}
	}
	return append(all, [3]int{64, 64, 64}, [3]int{64, 64, 40}, [3]int{64, 64, 1}, [3]int{64, 20, 20}, [3]int{20, 64, 20}, [3]int{64, 20, 11}, [3]int{20, 64, 11}, [3]int{64, 1, 1}, [3]int{1, 64, 1})
}

// SourceFor gives numbers that are shorter where matrices are larger, and others for each shape and rank.
func SourceFor(shape [3]int) *Source {
	rows, cols, rank := shape[0], shape[1], shape[2]
	return &Source{Words: min(3, 16/max(rows, cols)), Seed: uint64(10000*rows + 100*cols + rank)}
}
