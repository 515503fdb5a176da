package group_test

import (
	"fmt"
	"iter"
	"slices"
	"sync"
	"testing"

	"trellis/api"
	"trellis/check"
	"trellis/group"
	"trellis/made"
)

// rowsOf are the rows of a sound matrix.
func rowsOf(a api.Mat) [][]api.Int {
	var all [][]api.Int
	for i := range a.Rows {
		all = append(all, a.At[i*a.Cols:(i+1)*a.Cols])
	}
	return all
}

// holdRows asks for just these rows, each spoilt as soon as it is given.
func holdRows(t *testing.T, call string, rows iter.Seq[[]api.Int], want [][]api.Int) {
	t.Helper()
	i := 0
	for v := range rows {
		if i < len(want) {
			check.Ints(t, fmt.Sprint(call, ": row ", i), v, want[i])
			check.Same(t, fmt.Sprint(call, ": how many numbers in row ", i), len(v), len(want[i]))
		}
		check.Spoil(v)
		i++
	}
	check.Same(t, call+": how many rows", i, len(want))
}

// holdGiven asks Each for the rows of a matrix, and for the same when it is gone over again.
func holdGiven(t *testing.T, a, want string) {
	t.Helper()
	for _, m := range []api.Mat{mx(a), made.Disguised(mx(a))} {
		rows, e := group.Each(m)
		check.Same(t, of("Each", m), e, api.OK)
		for range 3 {
			holdRows(t, of("Each", m), rows, rowsOf(mx(want)))
		}
		holdEach(t, m, num(mx(want).Rows))
	}
}

// P22.7, worked out by hand.
func TestEach(t *testing.T) {
	for a, want := range map[string]string{
		// One class: no columns, or all rows in the lattice.
		"0x0": "1x0", "1x0": "1x0", "64x0": "1x0", "1": "0", "-1": "0", "2; 3": "0", "1 0; 0 1": "0 0", "0 1; 1 0": "0 0", "2 1; 1 1": "0 0",
		"2": "0; 1", "-3": "0; 1; 2", "0; 4; 6": "0; 1", "4; -6; 0": "0; 1", "1 0; 0 3": "0 0; 0 1; 0 2", "3 0; 0 1": "0 0; 1 0; 2 0", "2 0; 0 2": "0 0; 0 1; 1 0; 1 1", "2 0; 0 3": "0 0; 0 1; 0 2; 1 0; 1 1; 1 2", "3 0; 0 2": "0 0; 0 1; 1 0; 1 1; 2 0; 2 1",
		// Where what stands above a pivot, or the order of the rows, changes nothing.
		"2 1; 0 2": "0 0; 0 1; 1 0; 1 1", "0 2; 2 1": "0 0; 0 1; 1 0; 1 1", "1 2; 3 4": "0 0; 0 1", "1 2; 0 4": "0 0; 0 1; 0 2; 0 3", "2 3; 0 5; 2 8; 0 0": "0 0; 0 1; 0 2; 0 3; 0 4; 1 0; 1 1; 1 2; 1 3; 1 4", "1 5 0; 0 7 0; 0 0 -1": "0 0 0; 0 1 0; 0 2 0; 0 3 0; 0 4 0; 0 5 0; 0 6 0",
		"2 0 0; 0 1 0; 0 0 2": "0 0 0; 0 0 1; 1 0 0; 1 0 1", "2 1 1; 0 2 1; 0 0 2": "0 0 0; 0 0 1; 0 1 0; 0 1 1; 1 0 0; 1 0 1; 1 1 0; 1 1 1",
	} {
		holdGiven(t, a, want)
	}
}

// repeated is a diagonal matrix with this number so many times.
func repeated(n api.Int, count int) api.Mat {
	return diagOf(count, count, check.Filled(1, count, []api.Int{n}).At)
}

// P22.7: up to MaxList classes, on one number or many.
func TestEachAtTheLimit(t *testing.T) {
	for _, list := range [][]int{{4096}, {1, 4096}, {4096, 1}, {4095}, {64, 64}, {63, 65}, {2, 2048}, {16, 16, 16}, {2, 2, 2, 2, 2, 2, 2, 2, 2, 2, 2, 2}, {8, 1, 8, 1, 64}, {5, 819}, {3, 1365}} {
		a := diagOf(len(list), len(list), nums(list...))
		holdEach(t, a, productOf(nums(list...)))
		// Mixed, and with numbers beside the diagonal.
		s := made.Source{Seed: uint64(list[0])}
		mix, _, _ := s.Unimodular(len(list))
		other, _, _ := s.Unimodular(len(list))
		holdEach(t, product(mix, a, other), productOf(nums(list...)))
	}
	wide := unitOf(64)
	wide.At[20*64+20] = plus(64, 0)
	wide.At[63*64+63] = plus(64)
	holdEach(t, wide, num(4096))
}

// P22.7: more classes are refused, though their number, or a number on the way to it, would wrap to a small one; and so is no end of them.
func TestEachRefused(t *testing.T) {
	for _, a := range []api.Mat{
		diagOf(1, 1, nums(4097)), diagOf(2, 2, nums(4097, 1)), diagOf(2, 2, nums(1, 4097)), diagOf(2, 2, nums(64, 65)), diagOf(2, 2, nums(4096, 2)), diagOf(2, 2, nums(2, 4096)), diagOf(2, 2, nums(3, 1366)), repeated(num(2), 13), repeated(num(2), 64), repeated(num(4), 32), repeated(num(16), 16),
		repeated(num(1<<32), 2), repeated(num(1<<16), 4), diagOf(2, 2, []api.Int{num(1 << 32), num(1<<32 + 1)}), diagOf(3, 3, []api.Int{num(1 << 62), num(4), num(3)}), diagOf(2, 2, []api.Int{plus(check.High), num(2)}), diagOf(2, 2, []api.Int{num(3), plus(0xaaaaaaaaaaaaaaab)}),
		// A little number first, then one that makes of it 0, less than 0, or little again.
		diagOf(2, 2, []api.Int{num(4), num(1 << 62)}), diagOf(2, 2, []api.Int{num(2), num(1 << 62)}), diagOf(2, 2, []api.Int{num(8), num(1<<61 + 1)}), diagOf(3, 3, []api.Int{num(64), num(64), num(1 << 52)}), diagOf(2, 2, []api.Int{num(4096), num(1<<52 + 1)}), diagOf(2, 2, []api.Int{num(3), num(1<<63 - 1)}),
		diagOf(1, 1, []api.Int{plus(check.High)}), diagOf(1, 1, []api.Int{plus(check.Top)}), diagOf(1, 1, []api.Int{plus(0, 1)}), diagOf(1, 1, []api.Int{plus(5, 1)}), diagOf(2, 2, []api.Int{num(2), plus(2, 0, 0, 1)}), diagOf(1, 1, []api.Int{minus(4097)}),
		mx("0"), mx("0x1"), mx("0 0"), mx("0x64"), mx("2 0"), mx("0 2"), mx("1 1"), mx("2 4; 1 2"), mx("1 0 0; 0 1 0"), mx("1 2 3; 4 5 6; 7 8 9"), mx("0 0; 0 0; 0 0"), mx("0; 0"),
	} {
		for _, m := range []api.Mat{a, made.Disguised(a)} {
			rows, e := group.Each(m)
			for range 2 {
				holdNone(t, of("Each", m), rows, e, api.ErrLarge)
			}
		}
	}
}

// R6: it stops at once when the loop is left, wherever that is, and begins anew with the next loop.
func TestEachLeft(t *testing.T) {
	for _, text := range []string{"3 1; 0 4", "3x0", "1 0; 0 1", "7", "2 1 1; 0 2 1; 0 0 2"} {
		rows, _ := group.Each(mx(text))
		all := given(rows, api.MaxList)
		for count := 1; count <= len(all)+1; count++ {
			asked := 0
			rows(func(v []api.Int) bool {
				check.Ints(t, fmt.Sprint("Each(", text, "), left after ", count), v, all[asked])
				asked++
				return asked < count
			})
			check.Same(t, "Each("+text+"), left: how many rows", asked, min(count, len(all)))
		}
		holdRows(t, "Each("+text+"), begun anew", rows, all)
	}
}

// R6: one loop goes within another, each from the beginning; two go by turns.
func TestEachNested(t *testing.T) {
	rows, _ := group.Each(mx("3 1; 0 4"))
	all := given(rows, api.MaxList)
	i := 0
	for v := range rows {
		check.Ints(t, "outside", v, all[i])
		holdRows(t, "inside", rows, all)
		i++
	}
	check.Same(t, "how many outside", i, 12)
	one, stopOne := iter.Pull(rows)
	defer stopOne()
	other, stopOther := iter.Pull(rows)
	defer stopOther()
	for _, want := range all {
		for _, next := range []func() ([]api.Int, bool){one, other} {
			v, ok := next()
			check.Same(t, "is there one more", ok, true)
			check.Ints(t, "by turns", v, want)
			check.Spoil(v)
		}
	}
}

// R6: several go over it at a time, and write into the rows that they are given.
func TestEachAtATime(t *testing.T) {
	rows, _ := group.Each(mx("9 1 2; 0 8 3; 0 0 7"))
	want := given(rows, api.MaxList)
	answers := make([][][]api.Int, 8)
	var all sync.WaitGroup
	for w := range answers {
		all.Go(func() {
			for range 5 {
				answers[w] = nil
				for v := range rows {
					answers[w] = append(answers[w], check.Roomy(v))
					check.Spoil(v)
				}
			}
		})
	}
	all.Wait()
	for w, got := range answers {
		check.Same(t, fmt.Sprint("how many rows of worker ", w), len(got), 9*8*7)
		for i, v := range got {
			check.Ints(t, fmt.Sprint("row of worker ", w), v, want[i])
		}
	}
}

// R6: what becomes of the matrix after the call changes nothing, be it ahead of the first row or between two.
func TestEachHangsOnTheCall(t *testing.T) {
	fresh := func() api.Mat {
		return api.Mat{Rows: 2, Cols: 2, At: []api.Int{plus(3), plus(1, 0), minus(0), plus(2)}}
	}
	rows, _ := group.Each(fresh())
	want := given(rows, api.MaxList)
	a := fresh()
	rows, _ = group.Each(a)
	check.Spoil(a.At)
	holdRows(t, "changed ahead of the first row", rows, want)
	a = fresh()
	rows, _ = group.Each(a)
	i := 0
	for v := range rows {
		check.Ints(t, "changed between two rows", v, want[i])
		check.Spoil(a.At)
		i++
	}
	check.Same(t, "how many rows", i, 6)
	holdRows(t, "changed, and gone over again", rows, want)
}

// R4: each row is new memory, spare room included.
func TestEachOwnRows(t *testing.T) {
	for _, text := range []string{"3 1; 0 4", "5", "2 0 0; 0 2 0; 0 0 2"} {
		rows, _ := group.Each(mx(text))
		want := given(rows, api.MaxList)
		kept, again := slices.Collect(rows), slices.Collect(rows)
		var words [][]uint64
		for _, v := range slices.Concat(kept, again) {
			for _, n := range v {
				words = append(words, n.Mag)
			}
		}
		check.Apart(t, "Each("+text+")", words...)
		for i := range kept {
			check.Ints(t, "kept", kept[i], want[i])
			check.Spoil(kept[i])
			check.Ints(t, "kept another time", again[i], want[i])
		}
	}
}

// P22.3 and P22.7: each row of whole numbers has its Rep among the rows, and each of these is its own.
func TestEachAndRep(t *testing.T) {
	for _, text := range []string{"3 1; 0 4", "2 4; 6 8", "2 1 1; 0 2 1; 0 0 2", "6; 4", "0 5; 3 0; 1 1"} {
		a := mx(text)
		rows, _ := group.Each(a)
		all := given(rows, api.MaxList)
		for _, v := range all {
			check.Ints(t, at("Rep of a row of Each", a, v), holdRep(t, a, v), v)
		}
		s := made.Source{Words: 2, Seed: 5}
		for range 50 {
			rep := holdRep(t, a, s.Whole(1, a.Cols).At)
			is := slices.ContainsFunc(all, func(v []api.Int) bool { return slices.EqualFunc(v, rep, isEqual) })
			check.Same(t, at("is Rep among the rows of Each", a, rep), is, true)
		}
		check.Same(t, "is the first row zero", isZero(all[0]), true)
	}
}
