package made

import (
	"trellis/api"
	"trellis/check"
	"trellis/mat"
)

// Samples are matrices of all ranks, shapes that are not square among them, with numbers in least form and in no least form, 0 and -1 and long ones.
func Samples() []api.Mat {
	long := check.Plus(append(check.Mixed(5, 4), 0)...)
	numbers := []api.Int{check.Num(1), check.Minus(0, 0), check.Plus(6, 0), check.Num(-1), check.Num(0), check.Minus(0, 1), long}
	unit, _ := mat.Unit(4)
	all := []api.Mat{unit, check.Filled(3, 2, numbers[2:])}
	for _, text := range []string{"0x0", "0x2", "2x0", "1", "0", "-7", "0 1; 1 0", "1 0; 0 1", "1 2; 2 4", "0 0; 0 0", "0 0 2; 0 3 0; 5 0 0"} {
		all = append(all, check.Matrix(text))
	}
	for _, shape := range [][2]int{{2, 2}, {3, 3}, {1, 7}, {7, 1}, {4, 4}, {5, 5}} {
		all = append(all, check.Filled(shape[0], shape[1], numbers))
	}
	return all
}
