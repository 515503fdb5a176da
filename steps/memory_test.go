package steps_test

import (
	"fmt"
	"slices"
	"testing"

	"trellis/api"
	"trellis/check"
	"trellis/steps"
)

// stepsBy are steps for n lines that hold these integers, with a meaning and without.
func stepsBy(n int, integers []api.Int) list {
	var all list
	for i, k := range integers {
		switch {
		case n == 0:
		case n > 1 && i%2 == 0:
			all = append(all, addBy(i/2%n, (i/2+1)%n, k))
		case i%4 == 1:
			all = append(all, api.Step{Kind: api.Swap, I: i % n, J: (i + 1) % n, K: k})
		default:
			all = append(all, api.Step{Kind: api.Negate, I: i % n, J: 9, K: k})
		}
	}
	return all
}

// numbersOf are the integers of steps.
func numbersOf(s list) []api.Int {
	var all []api.Int
	for _, one := range s {
		all = append(all, one.K)
	}
	return all
}

// numbers are such as a copy may be saved for, and such as are in no least form.
func numbers() []api.Int {
	return []api.Int{num(1), minus(0, 0), plus(6, 0), num(-1), num(0), minus(0, 1), plus(append(check.Mixed(5, 4), 0)...)}
}

// makers make a tape of a matrix and steps, and bring it to each state that it may be in.
func makers() map[string]func(a api.Mat, s list) *steps.Tape {
	all := func(a api.Mat, s list) *steps.Tape {
		p, _ := steps.New(a)
		for _, one := range s {
			p.Do(one)
		}
		return p
	}
	undone := func(a api.Mat, s list) *steps.Tape {
		p := all(a, s)
		for range len(s)/2 + 1 {
			p.Undo()
		}
		return p
	}
	return map[string]func(a api.Mat, s list) *steps.Tape{
		"New":  func(a api.Mat, s list) *steps.Tape { return all(a, nil) },
		"Do":   all,
		"Undo": undone,
		"Redo": func(a api.Mat, s list) *steps.Tape {
			p := undone(a, s)
			p.Redo()
			return p
		},
		"Do that is refused": func(a api.Mat, s list) *steps.Tape {
			p := undone(a, s)
			for _, one := range s {
				one.I = -1
				p.Do(one)
			}
			return p
		},
		"Do that forgets": func(a api.Mat, s list) *steps.Tape {
			p := undone(a, s)
			for _, one := range s {
				p.Do(one)
			}
			return p
		},
	}
}

// readers are the calls that answer a tape's integers.
func readers() map[string]func(p *steps.Tape) []api.Int {
	return map[string]func(p *steps.Tape) []api.Int{
		"Now": func(p *steps.Tape) []api.Int { return p.Now().At },
		"Log": func(p *steps.Tape) []api.Int { return numbersOf(p.Log()) },
		"Sides": func(p *steps.Tape) []api.Int {
			u, w := p.Sides()
			return slices.Concat(u.At, w.At)
		},
		"the first side": func(p *steps.Tape) []api.Int {
			u, _ := p.Sides()
			return u.At
		},
	}
}

// entries are those of an answer.
func entries(a api.Mat, e api.Errno) []api.Int { return a.At }

// R4: what is handed in stays as it is, spare room included, and what is answered has memory of its own, its spare room too.
func TestMemory(t *testing.T) {
	calls := map[string]func(a, b api.Mat) []api.Int{
		"Rows":    func(a, b api.Mat) []api.Int { return entries(steps.Rows(a, stepsBy(a.Rows, b.At))) },
		"Cols":    func(a, b api.Mat) []api.Int { return entries(steps.Cols(a, stepsBy(a.Cols, b.At))) },
		"Rows, 0": func(a, b api.Mat) []api.Int { return entries(steps.Rows(a, nil)) },
		"Cols, 0": func(a, b api.Mat) []api.Int { return entries(steps.Cols(a, nil)) },
		"Matrix":  func(a, b api.Mat) []api.Int { return entries(steps.Matrix(3, stepsBy(3, b.At))) },
		"Matrix of a swap": func(a, b api.Mat) []api.Int {
			return entries(steps.Matrix(2, []api.Step{swap(0, 1), swap(1, 1)}))
		},
		"Check": func(a, b api.Mat) []api.Int {
			place, e := steps.Check(2, append(stepsBy(2, b.At), stepsBy(3, a.At)...))
			return nums(place, int(e))
		},
		"Sign": func(a, b api.Mat) []api.Int {
			sign, e := steps.Sign(3, append(stepsBy(2, b.At), stepsBy(3, a.At)...))
			return nums(sign, int(e))
		},
		"Inverse": func(a, b api.Mat) []api.Int {
			back, _ := steps.Inverse(3, append(stepsBy(2, b.At), stepsBy(3, a.At)...))
			return numbersOf(back)
		},
		"Factor": func(a, b api.Mat) []api.Int {
			s, _ := steps.Factor(a)
			return numbersOf(s)
		},
		"Rows that is refused": func(a, b api.Mat) []api.Int {
			return entries(steps.Rows(a, append(stepsBy(a.Rows, b.At), swap(-1, 0))))
		},
		"Rows of a matrix that is not sound": func(a, b api.Mat) []api.Int {
			a.Rows++
			return entries(steps.Rows(a, stepsBy(a.Rows, b.At)))
		},
	}
	for maker, build := range makers() {
		for reader, read := range readers() {
			calls[maker+", "+reader] = func(a, b api.Mat) []api.Int { return read(build(a, stepsBy(a.Rows, b.At))) }
		}
	}
	all := []api.Mat{
		mx("0x2"), mx("2x0"), mx("1"),
		{Rows: 2, Cols: 2, At: []api.Int{minus(1, 0), plus(3, 0), minus(0), num(1)}},
		{Rows: 2, Cols: 2, At: []api.Int{plus(0, 1, 0), num(-1), num(1), num(0)}},
		check.Filled(3, 2, numbers()), check.Filled(1, 7, numbers()), check.Filled(2, 4, numbers()[3:]),
	}
	check.MatMemory(t, calls, all)
}

// spoilSteps writes over a list of steps and over their integers, spare room included.
func spoilSteps(s list) {
	s = s[:cap(s)]
	check.Spoil(numbersOf(s))
	for i := range s {
		s[i] = api.Step{Kind: 77, I: -1, J: -2, K: num(97)}
	}
}

// roomySteps is a copy of s with spare room behind it.
func roomySteps(s list) list {
	return slices.Concat(s, list{swap(5, 6), addBy(7, 8, plus(94, 0))})[:len(s)]
}

// holdRoomy asks if a list is still the roomy copy of s, field by field.
func holdRoomy(t *testing.T, call string, got, s list) {
	t.Helper()
	holdSteps(t, call, got, s)
	want := roomySteps(s)
	holdSteps(t, call+": spare room", got[:cap(want)], want[:cap(want)])
}

// R4: lists of steps themselves, not their integers alone, stay as they are, and those that are answered are new.
func TestStepLists(t *testing.T) {
	s := list{add(0, 1, 3), {Kind: api.Swap, I: 0, J: 1, K: plus(5, 0)}, {Kind: api.Negate, I: 1, J: 8, K: minus(6)}, addBy(1, 0, minus(7, 0))}
	given := roomySteps(s)
	steps.Check(2, given)
	steps.Sign(2, given)
	steps.Matrix(2, given)
	steps.Rows(mx("1 2; 3 4"), given)
	steps.Cols(mx("1 2; 3 4"), given)
	first, _ := steps.Inverse(2, given)
	second, _ := steps.Inverse(2, given)
	holdRoomy(t, "what was handed in", given, s)
	want, _ := steps.Inverse(2, s)
	spoilSteps(first)
	holdRoomy(t, "what was handed in, after the answer has changed", given, s)
	holdSteps(t, "the second answer", second, want)
	spoilSteps(given)
	holdSteps(t, "the second answer, after what was handed in has changed", second, want)
	u := mx("5 2; 2 1")
	wanted, _ := steps.Factor(u)
	first, _ = steps.Factor(u)
	second, _ = steps.Factor(u)
	spoilSteps(first)
	holdSteps(t, "Factor, after another answer has changed", second, wanted)
}

// R4: a tape keeps copies: what becomes of what was handed in, or of what it answered, changes nothing in it.
func TestTapesKeepCopies(t *testing.T) {
	for maker, build := range makers() {
		for reader, read := range readers() {
			a := check.Filled(2, 3, numbers())
			want := build(a, stepsBy(2, numbers()))
			matrix := api.Mat{Rows: 2, Cols: 3, At: check.Roomy(a.At)}
			s := roomySteps(stepsBy(2, check.Roomy(numbers())))
			p := build(matrix, s)
			check.Spoil(matrix.At)
			spoilSteps(s)
			call := maker + ", " + reader
			holdAlike(t, call+": what was handed in has changed", p, want)
			check.Spoil(read(p))
			spoilSteps(p.Log())
			holdAlike(t, call+": what was answered has changed", p, want)
			// What was taken back is kept too.
			for want.Redo() {
				check.Same(t, call+": Redo", p.Redo(), true)
			}
			holdAlike(t, call+": done again", p, want)
			for want.Undo() {
				check.Same(t, call+": Undo", p.Undo(), true)
			}
			holdAlike(t, call+": all taken back", p, want)
		}
	}
}

// holdAlike asks two tapes for the same.
func holdAlike(t *testing.T, call string, got, want *steps.Tape) {
	t.Helper()
	check.Mat(t, call+": Now", got.Now(), want.Now())
	holdSteps(t, call+": Log", got.Log(), want.Log())
	u, w := got.Sides()
	wantU, wantW := want.Sides()
	check.Mat(t, call+": the first side", u, wantU)
	check.Mat(t, call+": the second side", w, wantW)
}

// words are the lists of words of integers.
func words(list []api.Int) [][]uint64 {
	var all [][]uint64
	for _, n := range list {
		all = append(all, n.Mag)
	}
	return all
}

// R4: no words that a tape keeps are those of another tape, of what was handed in, of what was answered, or of another of its numbers.
func TestWordsApart(t *testing.T) {
	for maker, build := range makers() {
		for from := range numbers() {
			a := check.Filled(2, 3, numbers()[from:])
			a.At = check.Roomy(a.At)
			given := check.Roomy(numbers())
			s := stepsBy(2, given)
			one, other := build(a, s), build(a, s)
			all := slices.Concat(words(a.At), words(given), one.Kept(), other.Kept())
			for _, read := range readers() {
				all = append(all, words(read(one))...)
			}
			check.Apart(t, fmt.Sprintf("%s with numbers from %d on", maker, from), all...)
		}
	}
}

// R4: what is done to one tape is not done to another that began with the same matrix, or with its Now.
func TestTapesApart(t *testing.T) {
	a := mx("1 2; 3 4")
	one, other := tape(t, a), tape(t, a)
	one.Do(swap(0, 1))
	one.Do(add(0, 1, 2))
	third := tape(t, one.Now())
	one.Undo()
	one.Do(negate(0))
	check.Mat(t, "another tape of the same matrix", other.Now(), a)
	check.Same(t, "Undo of it", other.Undo(), false)
	check.Mat(t, "a tape of Now", third.Now(), mx("5 8; 1 2"))
	check.Same(t, "Undo of it", third.Undo(), false)
	third.Do(negate(1))
	check.Mat(t, "the first", one.Now(), mx("-3 -4; 1 2"))
}
