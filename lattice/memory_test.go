package lattice_test

import (
	"testing"

	"trellis/api"
	"trellis/check"
	"trellis/lattice"
	"trellis/made"
)

// samples are matrices of all ranks and many shapes, in least form and not, and such as have their lattices in one another.
func samples() []api.Mat {
	all := made.Samples()
	for _, text := range []string{"4 0; 0 6", "2 0; 0 3", "2 4; 6 8", "0 0; 4 0; 0 6", "1 2 3; 4 5 6; 7 8 9", "6; 10; 15"} {
		all = append(all, mx(text), made.Disguised(mx(text)))
	}
	return all
}

// rowOf are as many numbers of b as a has columns, or fewer where there are not so many.
func rowOf(a, b api.Mat) []api.Int {
	return b.At[:min(a.Cols, len(b.At))]
}

// R4: what is handed in stays as it is, spare room included, and an answer has memory of its own, its spare room too.
func TestMemory(t *testing.T) {
	calls := map[string]func(a, b api.Mat) []api.Int{}
	for name, call := range map[string]answering{"Kernel": lattice.Kernel, "Image": lattice.Image, "Complement": lattice.Complement, "Saturate": lattice.Saturate} {
		calls[name] = func(a, b api.Mat) []api.Int {
			got, _ := call(a)
			return got.At
		}
	}
	for name, call := range map[string]func(a, b api.Mat) (api.Mat, api.Errno){"Sum": lattice.Sum, "Meet": lattice.Meet} {
		calls[name] = func(a, b api.Mat) []api.Int {
			got, _ := call(a, b)
			return got.At
		}
		calls[name+" of one twice"] = func(a, b api.Mat) []api.Int {
			got, _ := call(a, a)
			return got.At
		}
		calls[name+" with no rows"] = func(a, b api.Mat) []api.Int {
			got, _ := call(a, api.Mat{Cols: a.Cols})
			return got.At
		}
	}
	for name, call := range onTwo() {
		calls[name+", all of it"] = func(a, b api.Mat) []api.Int {
			got, _ := call(a, b)
			return got
		}
	}
	for name, call := range onRow() {
		calls[name] = func(a, b api.Mat) []api.Int {
			got, _ := call(a, rowOf(a, b))
			return got
		}
		calls[name+" of a row of its own"] = func(a, b api.Mat) []api.Int {
			got, _ := call(a, rowOf(a, a))
			return got
		}
		calls[name+" with a unit matrix"] = func(a, b api.Mat) []api.Int {
			count := min(len(b.At), 6)
			got, _ := call(unitOf(count), b.At[:count])
			return got
		}
		calls[name+" with no rows"] = func(a, b api.Mat) []api.Int {
			count := min(len(b.At), 6)
			got, _ := call(api.Mat{Cols: count}, b.At[:count])
			return got
		}
	}
	for name, call := range takers() {
		calls[name+" of what is not sound"] = func(a, b api.Mat) []api.Int {
			a.Rows++
			a.Cols++
			got, _ := call(a)
			return got
		}
	}
	check.MatMemory(t, calls, samples())
}

// R4: b's own list stays as it is, where it has room for more.
func TestMemoryOfRoomyRow(t *testing.T) {
	for _, a := range []api.Mat{mx("2 3; 0 5"), mx("0 0; 0 0"), mx("0x2"), mx("7 0; 0 4; 0 0"), mx("0 3")} {
		b := check.Roomy(nums(-7, 4))
		want := check.Roomy(nums(-7, 4))
		for _, call := range onRow() {
			call(a, b)
		}
		check.Ints(t, of("what was handed in and its room", a), b[:cap(want)], want[:cap(want)])
	}
}

// R4: the list of fractions has memory of its own.
func TestMemoryOfFractions(t *testing.T) {
	for _, c := range [][2]string{{"2 0; 0 3", "1 0"}, {"0x2", "5 -6"}, {"4 2 1; 0 4 2; 0 0 4", "0 0 1"}, {"1 2", "2 1"}, {"6 1", "3 0"}} {
		a, b := mx(c[0]), row(c[1])
		one, _ := lattice.Refute(a, b)
		other, _ := lattice.Refute(a, b)
		want := check.RoomyFracs(one)
		check.SpoilFracs(one)
		check.Fracs(t, at("Refute, another time", a, b), other, want)
		check.SpoilFracs(other)
		check.Mat(t, "the matrix", a, mx(c[0]))
		check.Ints(t, "the row", b, row(c[1]))
		holdRefuted(t, a, b)
	}
}

// R4: entries that have the same words.
func TestOverlap(t *testing.T) {
	words := []uint64{4, 0, 6, 9, 0}
	four, six, nine := plus(words[:2]...), plus(words[2:3]...), plus(words[3:]...)
	a := api.Mat{Rows: 2, Cols: 2, At: []api.Int{four, six, six, nine}}
	holdOne(t, a)
	check.Ints(t, at("Solve", a, a.At[2:]), holdSolved(t, a, a.At[2:]), nums(0, 1))
	check.Ints(t, at("Solve", a, a.At[:2]), holdSolved(t, a, a.At[:2]), nums(1, 0))
	holdRefuted(t, a, a.At[1:3])
	holdTwo(t, a, a)
	holdTwo(t, a, api.Mat{Rows: 1, Cols: 2, At: a.At[1:3]})
	holdIndex(t, a, mx("2 3"), num(1))
	check.Words(t, "what was handed in", words, []uint64{4, 0, 6, 9, 0})
}
