package steps

import (
	"slices"

	"trellis/api"
	"trellis/mat"
)

// Tape is a matrix under work, by steps on its rows that can be taken back.
type Tape struct {
	log
	now sheet
}

// New: a tape that begins with a.
func New(a api.Mat) (*Tape, api.Errno) {
	if e := mat.Check(a); e != api.OK {
		return nil, e
	}
	return &Tape{now: sheetOf(a)}, api.OK
}

// Do: one step.
func (t *Tape) Do(s api.Step) api.Errno {
	if t == nil || !isFit(len(t.now.lines), s) {
		return api.ErrArg
	}
	t.work(of(s))
	return api.OK
}

// Undo: takes the last step back that has not been taken back.
func (t *Tape) Undo() bool {
	if t == nil || !t.canGoBack() {
		return false
	}
	t.takeBack().back().do(t.now.lines)
	return true
}

// Redo: does again the step that was taken back last.
func (t *Tape) Redo() bool {
	if t == nil || !t.canGoOn() {
		return false
	}
	t.putAgain().do(t.now.lines)
	return true
}

// Now: the matrix as it is.
func (t *Tape) Now() api.Mat {
	if t == nil {
		return api.Mat{}
	}
	return t.now.matrix()
}

// Log: the steps that stand, the first one first.
func (t *Tape) Log() []api.Step {
	if t == nil {
		return nil
	}
	return t.told()
}

// Sides: U and its inverse W: U times the first matrix is Now.
func (t *Tape) Sides() (u, w api.Mat) {
	if t == nil {
		return api.Mat{}, api.Mat{}
	}
	n, list := len(t.now.lines), t.told()
	back, _ := Inverse(n, list)
	u, _ = Matrix(n, list)
	w, _ = Matrix(n, back)
	return u, w
}

// work does a step that fits.
func (t *Tape) work(one step) {
	one.do(t.now.lines)
	t.put(one)
}

// log is what has been done, and what of it was taken back: the step that was taken back last stands last.
type log struct {
	done, undone []step
}

func (l *log) put(one step) {
	l.done = append(l.done, one)
	l.undone = nil
}

func (l *log) canGoBack() bool { return len(l.done) > 0 }

func (l *log) canGoOn() bool { return len(l.undone) > 0 }

// takeBack is the last step that stands, and from now on it is taken back.
func (l *log) takeBack() step {
	return move(&l.done, &l.undone)
}

// putAgain is the step that was taken back last, and from now on it stands again.
func (l *log) putAgain() step {
	return move(&l.undone, &l.done)
}

// told are the steps that stand.
func (l *log) told() []api.Step {
	list := make([]api.Step, 0, len(l.done))
	for _, one := range l.done {
		list = append(list, outer(one))
	}
	return list
}

// move takes the last step of a list that has one to the end of another.
func move(from, to *[]step) step {
	last := len(*from) - 1
	one := (*from)[last]
	*from = slices.Delete(*from, last, last+1)
	*to = append(*to, one)
	return one
}

// sheet is a matrix whose rows are lists of their own; without rows, it still has columns.
type sheet struct {
	cols  int
	lines [][]api.Int
}

// sheetOf is a sound matrix, in memory of its own.
func sheetOf(a api.Mat) sheet {
	work := sheet{cols: a.Cols}
	for _, line := range mat.Lines(a) {
		work.lines = append(work.lines, line)
	}
	return work
}

// matrix is a copy of what stands there.
func (w sheet) matrix() api.Mat {
	a, _ := mat.Make(len(w.lines), w.cols, slices.Concat(w.lines...))
	return a
}
