package steps_test

import (
	"fmt"
	"testing"

	"trellis/api"
	"trellis/check"
	"trellis/mat"
	"trellis/steps"
)

// tape is one that begins with a.
func tape(t *testing.T, a api.Mat) *steps.Tape {
	t.Helper()
	p, e := steps.New(a)
	check.Same(t, "New", e, api.OK)
	if p == nil {
		t.Fatalf("New of %v answers no tape", a)
	}
	return p
}

// record is what a tape must be: what it began with, what stands, and what was taken back, the last one last.
type record struct {
	began        api.Mat
	done, undone list
}

// hold asks all calls that tell something about a tape for what it must be.
func (r record) hold(t *testing.T, call string, p *steps.Tape) {
	t.Helper()
	u := multipliers(r.began.Rows, r.done)
	now, _ := mat.Mul(u, r.began)
	check.Mat(t, call+": Now", p.Now(), now)
	holdSteps(t, call+": Log", p.Log(), bare(r.done))
	first, second := p.Sides()
	check.Mat(t, call+": the first side", first, u)
	unit, _ := mat.Unit(r.began.Rows)
	product, e := mat.Mul(second, u)
	check.Same(t, call+": the second side", e, api.OK)
	check.Mat(t, call+": the second side times the first", product, unit)
	product, e = mat.Mul(u, second)
	check.Same(t, call+": the second side", e, api.OK)
	check.Mat(t, call+": the first side times the second", product, unit)
}

// move takes the last step of a list to the end of another.
func move(from, to *list) {
	last := len(*from) - 1
	*to = append(*to, (*from)[last])
	*from = (*from)[:last]
}

// do does a step to the tape and by the chapter's words to the record.
func (r *record) do(t *testing.T, p *steps.Tape, s api.Step) {
	t.Helper()
	check.Same(t, fmt.Sprintf("Do(%v)", s), p.Do(s), api.OK)
	r.done = append(r.done, s)
	r.undone = nil
}

// undo and redo likewise.
func (r *record) undo(t *testing.T, p *steps.Tape) {
	t.Helper()
	check.Same(t, "Undo", p.Undo(), len(r.done) > 0)
	if len(r.done) > 0 {
		move(&r.done, &r.undone)
	}
}

func (r *record) redo(t *testing.T, p *steps.Tape) {
	t.Helper()
	check.Same(t, "Redo", p.Redo(), len(r.undone) > 0)
	if len(r.undone) > 0 {
		move(&r.undone, &r.done)
	}
}

// beginnings are matrices of all kinds of shapes.
func beginnings() []api.Mat {
	all := []api.Mat{mx("0x0"), mx("0x3"), mx("3x0"), mx("5"), mx("2 0; 0 3"), mx("1 2 3; 4 5 6"), mx("0 0; 0 0; 0 0; 0 0"), mx("64x0"), mx("0x64")}
	return append(all, check.Filled(3, 2, check.Integers()), check.Filled(2, 5, large()), check.Filled(5, 4, check.Integers()[7:]))
}

// P11.7: it is the matrix, with its entries in least form, and an empty list.
func TestNew(t *testing.T) {
	for _, a := range append(beginnings(), check.Filled(64, 64, check.Integers())) {
		p := tape(t, a)
		want, _ := mat.Least(a)
		check.Mat(t, "Now of a new tape", p.Now(), want)
		check.Same(t, "steps of a new tape", len(p.Log()), 0)
		unit, _ := mat.Unit(a.Rows)
		u, w := p.Sides()
		check.Mat(t, "the first side of a new tape", u, unit)
		check.Mat(t, "the second side of a new tape", w, unit)
		check.Same(t, "Undo of a new tape", p.Undo(), false)
		check.Same(t, "Redo of a new tape", p.Redo(), false)
		check.Mat(t, "Now after nothing", p.Now(), want)
	}
}

// P11.8 to P11.10: each step that is fit, done, taken back and done again.
func TestDoUndoRedo(t *testing.T) {
	for _, a := range beginnings() {
		if a.Rows > 5 {
			continue
		}
		for _, s := range fit(a.Rows) {
			p, r := tape(t, a), record{began: a}
			call := fmt.Sprintf("a tape of %v and %v", a, s)
			r.do(t, p, s)
			r.hold(t, call+": Do", p)
			r.redo(t, p)
			r.undo(t, p)
			r.hold(t, call+": Undo", p)
			r.undo(t, p)
			r.redo(t, p)
			r.redo(t, p)
			r.hold(t, call+": Redo", p)
		}
	}
}

// P11.8 to P11.10: long runs, each step held against products of matrices.
func TestRuns(t *testing.T) {
	for k, a := range beginnings() {
		if a.Rows > 5 {
			continue
		}
		for kind, numbers := range map[string][]api.Int{"small": small(), "large": large()} {
			p, r := tape(t, a), record{began: a}
			ready, bad := someSteps(a.Rows, 200, uint64(k), numbers), unfit(a.Rows)
			for step, word := range check.Mixed(160, uint64(k)+50) {
				call := fmt.Sprintf("beginning %d, %s numbers, step %d", k, kind, step)
				switch what := word >> 7 % 16; {
				case what < 6 && len(ready) > 0:
					r.do(t, p, ready[step])
				case what < 8:
					check.Same(t, call, p.Do(bad[int(word>>20%uint64(len(bad)))]), api.ErrArg)
				case what < 12:
					r.undo(t, p)
				default:
					r.redo(t, p)
				}
				r.hold(t, call, p)
			}
			for range r.done {
				r.undo(t, p)
			}
			r.hold(t, "all taken back", p)
			check.Same(t, "Undo where nothing stands", p.Undo(), false)
			for range r.undone {
				r.redo(t, p)
			}
			r.hold(t, "all done again", p)
			check.Same(t, "Redo where nothing was taken back", p.Redo(), false)
		}
	}
}

// P11.8: a step that is not fit is refused, and nothing has changed: nothing is forgotten either.
func TestDoRefused(t *testing.T) {
	for _, a := range beginnings() {
		p, r := tape(t, a), record{began: a}
		for _, s := range someSteps(a.Rows, 6, 3, small()) {
			r.do(t, p, s)
		}
		r.undo(t, p)
		r.undo(t, p)
		r.undo(t, p)
		for _, bad := range unfit(a.Rows) {
			check.Same(t, fmt.Sprintf("Do(%v) of %d rows", bad, a.Rows), p.Do(bad), api.ErrArg)
		}
		r.hold(t, "after what was refused", p)
		for range 4 {
			r.redo(t, p)
		}
		r.hold(t, "after what was refused, done again", p)
	}
}

// P11.8: the lines are the rows, not the columns.
func TestDoOnRows(t *testing.T) {
	p := tape(t, mx("1 2 3; 4 5 6"))
	for _, s := range []api.Step{negate(2), swap(0, 2), swap(2, 2), add(2, 0, 1), add(0, 2, 1)} {
		check.Same(t, fmt.Sprintf("Do(%v)", s), p.Do(s), api.ErrArg)
	}
	p = tape(t, mx("1; 2; 3"))
	check.Same(t, "Do", p.Do(add(2, 0, -3)), api.OK)
	check.Mat(t, "Now", p.Now(), mx("1; 2; 0"))
}

// P11.8: a Do forgets all that was taken back, one that changes no number too.
func TestDoForgets(t *testing.T) {
	for _, s := range []api.Step{swap(1, 1), add(0, 1, 0), negate(0), swap(0, 1), add(1, 0, 2)} {
		p, r := tape(t, mx("1 2; 3 4")), record{began: mx("1 2; 3 4")}
		for range 3 {
			r.do(t, p, add(0, 1, 1))
		}
		r.undo(t, p)
		r.undo(t, p)
		r.do(t, p, s)
		check.Same(t, "Redo of what is forgotten", p.Redo(), false)
		r.hold(t, fmt.Sprintf("Do(%v) after two were taken back", s), p)
		r.undo(t, p)
		r.hold(t, "Undo of the last", p)
		r.undo(t, p)
		check.Same(t, "Undo of nothing", p.Undo(), false)
		r.redo(t, p)
		r.redo(t, p)
		check.Same(t, "Redo of nothing", p.Redo(), false)
		r.hold(t, "done again", p)
	}
}

// P11.9: the one that was taken back last comes first.
func TestRedoOrder(t *testing.T) {
	p := tape(t, mx("1 10; 0 0; 0 0"))
	all := list{add(1, 0, 2), add(2, 1, 3), swap(0, 2), negate(1)}
	var seen []api.Mat
	for _, s := range all {
		seen = append(seen, p.Now())
		check.Same(t, "Do", p.Do(s), api.OK)
	}
	seen = append(seen, p.Now())
	for place := len(all) - 1; place >= 0; place-- {
		check.Same(t, "Undo", p.Undo(), true)
		check.Mat(t, "Undo: Now", p.Now(), seen[place])
		holdSteps(t, "Undo: Log", p.Log(), all[:place])
	}
	for place := range all {
		check.Same(t, "Redo", p.Redo(), true)
		check.Mat(t, "Redo: Now", p.Now(), seen[place+1])
		holdSteps(t, "Redo: Log", p.Log(), all[:place+1])
	}
}

// P11.9: what has grown beyond a word comes back to just what it was.
func TestUndoLarge(t *testing.T) {
	a := check.Filled(64, 64, check.Integers())
	p, r := tape(t, a), record{began: a}
	for _, s := range someSteps(64, 12, 8, large()) {
		r.do(t, p, s)
	}
	r.hold(t, "64 rows", p)
	for range 12 {
		r.undo(t, p)
	}
	want, _ := mat.Least(a)
	check.Mat(t, "64 rows, all taken back", p.Now(), want)
	check.Same(t, "steps of 64 rows, all taken back", len(p.Log()), 0)
	for range 12 {
		r.redo(t, p)
	}
	r.hold(t, "64 rows, all done again", p)
}

// P11.10: fields without a meaning, and forms of K.
func TestLogIsBare(t *testing.T) {
	p := tape(t, mx("1; 2"))
	for _, s := range []api.Step{{Kind: api.Negate, I: 1, J: -77, K: minus(8, 0)}, {Kind: api.Swap, I: 1, J: 0, K: plus(0)}, addBy(0, 1, minus(0, 0)), addBy(1, 0, minus(0, 7, 0)), addBy(1, 0, plus(3))} {
		check.Same(t, "Do", p.Do(s), api.OK)
	}
	holdSteps(t, "Log", p.Log(), list{negate(1), swap(1, 0), add(0, 1, 0), addBy(1, 0, minus(0, 7)), add(1, 0, 3)})
	// Taken back and done again they are still so.
	for p.Undo() {
	}
	for p.Redo() {
	}
	holdSteps(t, "Log", p.Log(), list{negate(1), swap(1, 0), add(0, 1, 0), addBy(1, 0, minus(0, 7)), add(1, 0, 3)})
}

// P11.10: the calls that tell change nothing.
func TestTellingChangesNothing(t *testing.T) {
	a := mx("1 2; 3 4")
	p, r := tape(t, a), record{began: a}
	r.do(t, p, add(0, 1, 2))
	r.do(t, p, swap(0, 1))
	r.undo(t, p)
	for range 3 {
		r.hold(t, "told again", p)
	}
	r.redo(t, p)
	r.hold(t, "done again", p)
}

// P11.11.
func TestNil(t *testing.T) {
	var none *steps.Tape
	for range 2 {
		for _, s := range []api.Step{{}, swap(0, 0), negate(0), add(0, 1, 2), add(-1, 99, 2)} {
			check.Same(t, fmt.Sprintf("nil: Do(%v)", s), none.Do(s), api.ErrArg)
		}
		check.Same(t, "nil: Undo", none.Undo(), false)
		check.Same(t, "nil: Redo", none.Redo(), false)
		check.Mat(t, "nil: Now", none.Now(), api.Mat{})
		check.Same(t, "nil: Log", len(none.Log()), 0)
		u, w := none.Sides()
		check.Mat(t, "nil: the first side", u, api.Mat{})
		check.Mat(t, "nil: the second side", w, api.Mat{})
	}
}
