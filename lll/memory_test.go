package lll_test

import (
	"testing"

	"trellis/api"
	"trellis/check"
	"trellis/lll"
	"trellis/made"
)

// samples are matrices of all ranks and many shapes, in least form and not, whose rows are independent or not, reduced or not.
func samples() []api.Mat {
	all := made.Samples()
	for _, text := range []string{"4 0; 0 6", "2 0; 1 2", "2 4; 6 8", "0 0; 4 0; 0 6", "1 2 3; 4 5 6; 7 8 9", "6; 10; 15", "100 1; 99 1", "2 0 0; 0 2 0; 1 1 1"} {
		all = append(all, mx(text), made.Disguised(mx(text)))
	}
	return all
}

// rowOf are as many numbers of b as a has columns, or fewer where there are not so many.
func rowOf(a, b api.Mat) []api.Int {
	return b.At[:min(a.Cols, len(b.At))]
}

// R4: what is handed in stays as it is, spare room included, and an answer has memory of its own, its spare room too.
func TestMemory(t *testing.T) {
	calls := map[string]func(a, b api.Mat) []api.Int{}
	for name, call := range onOne() {
		calls[name+", all of it"] = func(a, b api.Mat) []api.Int {
			got, _ := call(a)
			return got
		}
	}
	calls["Gram"] = func(a, b api.Mat) []api.Int {
		got, _ := lll.Gram(a)
		return got.At
	}
	calls["b of Reduce"] = func(a, b api.Mat) []api.Int {
		got, _, _ := lll.Reduce(a)
		return got.At
	}
	calls["t of Reduce"] = func(a, b api.Mat) []api.Int {
		_, got, _ := lll.Reduce(a)
		return got.At
	}
	calls["row of Shortest"] = func(a, b api.Mat) []api.Int {
		got, _, _ := lll.Shortest(a)
		return got
	}
	calls["Near"] = func(a, b api.Mat) []api.Int {
		got, _ := lll.Near(a, rowOf(a, b))
		return got
	}
	calls["Near of a row of its own"] = func(a, b api.Mat) []api.Int {
		got, _ := lll.Near(a, rowOf(a, a))
		return got
	}
	calls["Near with a unit matrix"] = func(a, b api.Mat) []api.Int {
		count := min(len(b.At), 6)
		got, _ := lll.Near(unitOf(count), b.At[:count])
		return got
	}
	calls["Near with no rows"] = func(a, b api.Mat) []api.Int {
		count := min(len(b.At), 6)
		got, _ := lll.Near(api.Mat{Cols: count}, b.At[:count])
		return got
	}
	for name, call := range takers() {
		calls[name+" of what is not sound"] = func(a, b api.Mat) []api.Int {
			a.Rows++
			a.Cols++
			got, _ := call(a)
			return got
		}
	}
	check.MatMemory(t, calls, samples())
}

// R4: the row's own list stays as it is, where it has room for more.
func TestMemoryOfRoomyRow(t *testing.T) {
	for _, b := range []api.Mat{mx("2 3; 0 5"), mx("0 0; 0 0"), mx("0x2"), mx("7 0; 0 4; 0 0"), mx("0 3"), mx("3")} {
		v := check.Roomy(nums(-7, 4))
		want := check.Roomy(nums(-7, 4))
		lll.Near(b, v)
		check.Ints(t, of("what was handed in and its room", b), v[:cap(want)], want[:cap(want)])
	}
}

// R4: the two matrices of Reduce share nothing with each other, nor the row and the square of Shortest, spare room included.
func TestMemoryOfTwo(t *testing.T) {
	for _, a := range samples() {
		b, by, _ := lll.Reduce(a)
		again, other, _ := lll.Reduce(a)
		check.Spoil(b.At)
		check.Mat(t, of("t of Reduce, when b was written over", a), by, other)
		check.Spoil(other.At)
		b, by, _ = lll.Reduce(a)
		check.Mat(t, of("b of Reduce, when t was written over", a), again, b)
		check.Spoil(by.At)
		check.Mat(t, of("b of Reduce, when its t was written over", a), b, again)
		line, square, _ := lll.Shortest(a)
		check.Spoil(line)
		_, want, _ := lll.Shortest(a)
		check.Int(t, of("square of Shortest, when the row was written over", a), square, want)
	}
}

// R4 and R5: entries that have the same words; and the same answers each time.
func TestOverlap(t *testing.T) {
	words := []uint64{4, 0, 6, 9, 0}
	four, six, nine := plus(words[:2]...), plus(words[2:3]...), minus(words[3:]...)
	a := api.Mat{Rows: 2, Cols: 2, At: []api.Int{four, six, six, nine}}
	check.Ints(t, of("Dets", a), holdDets(t, a), nums(1, 52, 5184))
	holdIsReduced(t, a, false)
	b, by := holdReduce(t, a)
	again, other := holdReduce(t, a)
	check.Mat(t, of("b of Reduce, another time", a), again, b)
	check.Mat(t, of("t of Reduce, another time", a), other, by)
	check.Ints(t, at("Near", a, a.At[1:3]), holdNear(t, a, a.At[1:3]), nums(4, 6))
	line, _ := holdShortest(t, a)
	same, _ := holdShortest(t, a)
	check.Ints(t, of("row of Shortest, another time", a), same, line)
	holdLeast(t, a, num(52))
	check.Words(t, "what was handed in", words, []uint64{4, 0, 6, 9, 0})
}
