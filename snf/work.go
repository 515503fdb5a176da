package snf

import (
	"trellis/api"
	"trellis/hnf"
	"trellis/mat"
)

// work is a matrix on its way to the Smith form: what rows does, times the matrix at the beginning, times what cols does, upended, is d.
type work struct {
	d          api.Mat
	rows, cols side
}

// workOn begins with a sound matrix.
func workOn(a api.Mat) *work {
	return &work{a, unitSide(a.Rows), unitSide(a.Cols)}
}

// makeDiagonal leaves numbers on the diagonal alone, those above 0 first and then zeros: why there is an end to it, diagonalMade says.
func (w *work) makeDiagonal() {
	turned := false
	for w.settle(); !isDiagonal(w.d); w.settle() {
		w.turn()
		turned = !turned
	}
	if turned {
		w.turn()
	}
}

// settle brings the rows to the Hermite form.
func (w *work) settle() {
	// What is worked on is sound, so there is no error.
	full, _ := hnf.Full(w.d)
	w.d = full.H
	w.rows = w.rows.then(full.U, full.W)
}

// turn makes columns of the rows.
func (w *work) turn() {
	w.d, _ = mat.Turn(w.d)
	w.rows, w.cols = w.cols, w.rows
}

// makeChain makes each number of the diagonal, where no other stand, a divisor of the next.
func (w *work) makeChain() {
	list := diagonal(w.d)
	for i, j := range exchanges(len(list)) {
		n, m := list[i], list[j]
		if divides(n, m) {
			continue
		}
		left, right := multipliers(n, m)
		w.rows.mix(i, j, left)
		w.cols.mix(i, j, right)
		list[i], list[j] = divisorFirst(n, m)
	}
	// They stand where they stood, so there is no error.
	w.d, _ = mat.Diag(w.d.Rows, w.d.Cols, list)
}

// smith is what has been made, as an answer.
func (w *work) smith() api.Smith {
	left, _ := mat.Turn(w.rows.undoes)
	right, _ := mat.Turn(w.cols.does)
	return api.Smith{D: w.d, U: w.rows.does, V: right, Ui: left, Vi: w.cols.undoes}
}
