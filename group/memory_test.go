package group_test

import (
	"fmt"
	"slices"
	"testing"

	"trellis/api"
	"trellis/check"
	"trellis/group"
	"trellis/made"
)

// samples are matrices of all ranks and many shapes, in least form and not, whose groups have an end or not.
func samples() []api.Mat {
	all := made.Samples()
	for _, text := range []string{"4 0; 0 6", "2 0; 0 3", "2 4; 6 8", "0 0; 4 0; 0 6", "1 2 3; 4 5 6; 7 8 9", "6; 10; 15", "6 0 0; 0 10 0; 0 0 15"} {
		all = append(all, mx(text), made.Disguised(mx(text)))
	}
	return all
}

// rowOf are as many numbers of b as a has columns, or fewer where there are not so many.
func rowOf(a, b api.Mat) []api.Int {
	return b.At[:min(a.Cols, len(b.At))]
}

// R4: what is handed in stays as it is, spare room included, and an answer has memory of its own, its spare room too.
func TestMemory(t *testing.T) {
	calls := map[string]func(a, b api.Mat) []api.Int{}
	for name, call := range onOne() {
		calls[name] = func(a, b api.Mat) []api.Int {
			got, _ := call(a)
			return got
		}
	}
	for name, call := range onRow() {
		calls[name] = func(a, b api.Mat) []api.Int {
			got, _ := call(a, rowOf(a, b))
			return got
		}
		calls[name+" of a row of its own"] = func(a, b api.Mat) []api.Int {
			got, _ := call(a, rowOf(a, a))
			return got
		}
		calls[name+" with no rows"] = func(a, b api.Mat) []api.Int {
			count := min(len(b.At), 6)
			got, _ := call(api.Mat{Cols: count}, b.At[:count])
			return got
		}
	}
	calls["Same"] = func(a, b api.Mat) []api.Int {
		got, _ := sameOf(a, b)
		return got
	}
	for name, call := range takers() {
		calls[name+" of what is not sound"] = func(a, b api.Mat) []api.Int {
			a.Rows++
			a.Cols++
			got, _ := call(a)
			return got
		}
	}
	check.MatMemory(t, calls, samples())
}

// R4: the row's own list stays as it is, where it has room for more.
func TestMemoryOfRoomyRow(t *testing.T) {
	for _, a := range []api.Mat{mx("2 3; 0 5"), mx("0 0; 0 0"), mx("0x2"), mx("7 0; 0 4; 0 0"), mx("0 3"), mx("3")} {
		v := check.Roomy(nums(-7, 4))
		want := check.Roomy(nums(-7, 4))
		for _, call := range onRow() {
			call(a, v)
		}
		check.Ints(t, of("what was handed in and its room", a), v[:cap(want)], want[:cap(want)])
	}
}

// R4: the two lists of Coords share nothing with each other, spare room included.
func TestMemoryOfCoords(t *testing.T) {
	for _, a := range samples() {
		c, m, _ := group.Coords(a)
		again, other, _ := group.Coords(a)
		check.Spoil(c.At)
		check.Ints(t, of("m of Coords, when c was written over", a), m, other)
		check.Spoil(other)
		c, m, _ = group.Coords(a)
		check.Mat(t, of("c of Coords, when m was written over", a), again, c)
		check.Spoil(m)
		check.Mat(t, of("c of Coords, when its m was written over", a), c, again)
	}
}

// R4: of lists of factors, one beside the other and one twice.
func TestMemoryOfFactors(t *testing.T) {
	calls := map[string]func(list []api.Int) []api.Int{
		"Primary": func(list []api.Int) []api.Int {
			got, _ := group.Primary(list)
			var all []api.Int
			for _, p := range got {
				all = append(all, plus(p.Prime), num(p.Exp))
			}
			return all
		},
	}
	for name, call := range productCalls() {
		for _, ranks := range [][2]int{{0, 0}, {1, 0}, {0, 1}, {2, 3}, {65, 0}} {
			for part := range 4 {
				calls[fmt.Sprint(name, " in parts ", ranks, part)] = func(list []api.Int) []api.Int {
					count := len(list) * part / 3
					_, got, _ := call(ranks[0], list[:count], ranks[1], list[count:])
					return got
				}
			}
			calls[fmt.Sprint(name, " of one twice ", ranks)] = func(list []api.Int) []api.Int {
				_, got, _ := call(ranks[0], list, ranks[1], list)
				return got
			}
		}
	}
	long := []api.Int{plus(0, 6), plus(1, 0), plus(0, 0, 4, 0), plus(9)}
	check.ListMemory(t, calls, [][]api.Int{nums(12, 8, 1), nums(4), nil, nums(6, 6, 6), nums(1, 1), {plus(4, 0), plus(6, 0, 0), plus(1, 0)}, long, nums(0, 2), nums(2, -1, 3), {num(2), minus(0)}, nums(1<<31, 5)})
}

// R4: two answers of Primary share no memory, spare room included.
func TestMemoryOfPowers(t *testing.T) {
	factors := nums(12, 8, 30, 1, 7)
	got, _ := group.Primary(factors)
	other, _ := group.Primary(factors)
	want := slices.Clone(other)
	got = got[:cap(got)]
	for i := range got {
		got[i] = api.Power{Prime: 1, Exp: -1}
	}
	check.Same(t, "is the other answer as it was", slices.Equal(other, want), true)
	check.Ints(t, "factors", factors, nums(12, 8, 30, 1, 7))
}

// R4: entries that have the same words.
func TestOverlap(t *testing.T) {
	words := []uint64{4, 0, 6, 9, 0}
	four, six, nine := plus(words[:2]...), plus(words[2:3]...), plus(words[3:]...)
	a := api.Mat{Rows: 2, Cols: 2, At: []api.Int{four, six, six, nine}}
	holdGroup(t, a, 1, nil)
	check.Ints(t, at("Rep", a, a.At[2:]), holdRep(t, a, a.At[2:]), nums(0, 0))
	check.Ints(t, at("Rep", a, a.At[1:3]), holdRep(t, a, a.At[1:3]), nums(0, -3))
	holdOrder(t, a, a.At[:2], num(1))
	holdOrder(t, a, a.At[1:3], num(0))
	holdSame(t, a, api.Mat{Rows: 1, Cols: 2, At: a.At[1:3]}, false)
	holdProducts(t, 1, a.At, 1, a.At[1:])
	holdPrimary(t, a.At, powersOf("2 2 2^2 3 3 3^2"))
	check.Words(t, "what was handed in", words, []uint64{4, 0, 6, 9, 0})
}
