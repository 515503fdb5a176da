package modp_test

import (
	"fmt"
	"slices"
	"testing"

	"trellis/api"
	"trellis/check"
	"trellis/modp"
	"trellis/zint"
)

// field is what little matrices are held against: all that there is modulo p, gone through one by one.
type field struct{ p int }

// lists are all lists of so many residues, in dictionary order.
func (f field) lists(length int) [][]int {
	all := [][]int{{}}
	for range length {
		var longer [][]int
		for _, list := range all {
			for residue := range f.p {
				longer = append(longer, append(slices.Clone(list), residue))
			}
		}
		all = longer
	}
	return all
}

// times is x times the matrix.
func (f field) times(x []int, a api.Mat) []int {
	sums := make([]int, a.Cols)
	for place, entry := range a.At {
		n, _ := zint.Small(entry)
		sums[place%a.Cols] += x[place/a.Cols] * int(n)
	}
	for j, sum := range sums {
		sums[j] = (sum%f.p + f.p) % f.p
	}
	return sums
}

// combinations are, by their texts, all that the rows of a make, each with the first x that makes it.
func (f field) combinations(a api.Mat) map[string][]int {
	all := map[string][]int{}
	for _, x := range f.lists(a.Rows) {
		made := fmt.Sprint(f.times(x, a))
		if _, known := all[made]; !known {
			all[made] = x
		}
	}
	return all
}

// kernel are, by their texts, all x that make zeros of a.
func (f field) kernel(a api.Mat) map[string][]int {
	zeros := fmt.Sprint(make([]int, a.Cols))
	all := map[string][]int{}
	for _, x := range f.lists(a.Rows) {
		if fmt.Sprint(f.times(x, a)) == zeros {
			all[fmt.Sprint(x)] = x
		}
	}
	return all
}

// rank is how often p is taken for the number of combinations.
func (f field) rank(combinations int) int {
	rank := 0
	for ; combinations > 1; combinations /= f.p {
		rank++
	}
	return rank
}

// holdSame asks for two sets of the same lists.
func holdSame(t *testing.T, call string, got, want map[string][]int) {
	t.Helper()
	check.Same(t, call+": how many", len(got), len(want))
	for text := range want {
		if _, has := got[text]; !has {
			t.Errorf("%s: %s is not among them", call, text)
		}
	}
}

// leads are the places of the first entries of the rows that are not 0, with -1 for a row of zeros.
func leads(a api.Mat) []int {
	all := make([]int, a.Rows)
	for i := range all {
		line := a.At[i*a.Cols : (i+1)*a.Cols]
		all[i] = slices.IndexFunc(line, func(n api.Int) bool { return zint.Sign(n) != 0 })
	}
	return all
}

// holdForm asks for a reduced echelon form with so many rows that are not zero.
func holdForm(t *testing.T, call string, a api.Mat, rank int) {
	t.Helper()
	before := -1
	for i, lead := range leads(a) {
		if i >= rank {
			check.Same(t, fmt.Sprintf("%s: %v: where row %d begins", call, a, i), lead, -1)
			continue
		}
		if lead <= before {
			t.Errorf("%s: %v: row %d does not begin further right", call, a, i)
			return
		}
		before = lead
		for other := range a.Rows {
			want := num(0)
			if other == i {
				want = num(1)
			}
			check.Int(t, fmt.Sprintf("%s: %v: row %d in column %d", call, a, other, lead), a.At[other*a.Cols+lead], want)
		}
	}
}

// P12.3 to P12.6 for all matrices of residues of little shapes, by all their combinations.
func TestAllSmall(t *testing.T) {
	for _, c := range []struct{ p, side, places int }{{2, 4, 9}, {3, 3, 6}, {5, 3, 4}, {7, 2, 2}} {
		f := field{c.p}
		for rows := range c.side + 1 {
			for cols := range c.side + 1 {
				if rows*cols > c.places {
					continue
				}
				for _, entries := range f.lists(rows * cols) {
					f.holdAll(t, api.Mat{Rows: rows, Cols: cols, At: nums(entries...)})
				}
			}
		}
	}
}

// holdAll holds all calls at one matrix.
func (f field) holdAll(t *testing.T, a api.Mat) {
	t.Helper()
	combinations, kernel := f.combinations(a), f.kernel(a)
	rank := f.rank(len(combinations))
	p := uint64(f.p)
	got, e := modp.Rank(a, p)
	check.Same(t, of("Rank", a, p), got, rank)
	check.Same(t, of("Rank", a, p), e, api.OK)
	echelon, e := modp.Echelon(a, p)
	check.Same(t, of("Echelon", a, p), e, api.OK)
	check.Same(t, of("Echelon", a, p)+": shape", [2]int{echelon.Rows, echelon.Cols}, [2]int{a.Rows, a.Cols})
	holdForm(t, of("Echelon", a, p), echelon, rank)
	holdSame(t, of("Echelon", a, p)+": combinations", f.combinations(echelon), combinations)
	basis, e := modp.Kernel(a, p)
	check.Same(t, of("Kernel", a, p), e, api.OK)
	check.Same(t, of("Kernel", a, p)+": shape", [2]int{basis.Rows, basis.Cols}, [2]int{a.Rows - rank, a.Rows})
	holdForm(t, of("Kernel", a, p), basis, a.Rows-rank)
	holdSame(t, of("Kernel", a, p)+": combinations", f.combinations(basis), kernel)
	if a.Rows == a.Cols {
		f.holdSquare(t, a, rank)
	}
	for _, b := range f.lists(a.Cols) {
		_, is := combinations[fmt.Sprint(b)]
		f.holdSolve(t, a, b, leads(basis), is)
	}
}

// holdSquare holds the calls at a square matrix.
func (f field) holdSquare(t *testing.T, a api.Mat, rank int) {
	t.Helper()
	p := uint64(f.p)
	d, e := modp.Det(a, p)
	check.Same(t, of("Det", a, p), e, api.OK)
	check.Int(t, of("Det", a, p), residue(plus(d), p), residue(determinant(a), p))
	check.Same(t, of("Det", a, p)+": is it a least residue", d < p, true)
	check.Same(t, of("Det", a, p)+": is it 0", d == 0, rank < a.Rows)
	inverse, e := modp.Inverse(a, p)
	if d == 0 {
		holdRefusal(t, of("Inverse", a, p), inverse, e, api.ErrNone)
		return
	}
	check.Same(t, of("Inverse", a, p), e, api.OK)
	holdInverse(t, of("Inverse", a, p), a, inverse, p)
}

// holdSolve holds Solve at one b, which is a combination or not, with 0 asked for at these places.
func (f field) holdSolve(t *testing.T, a api.Mat, b, zeros []int, is bool) {
	t.Helper()
	p := uint64(f.p)
	call := of(fmt.Sprintf("Solve of %v", b), a, p)
	x, e := modp.Solve(a, nums(b...), p)
	if !is {
		holdRefusal(t, call, asRow(x), e, api.ErrNone)
		return
	}
	check.Same(t, call, e, api.OK)
	check.Same(t, call+": how many", len(x), a.Rows)
	small := make([]int, len(x))
	for i, n := range x {
		check.Int(t, call+": least residue", n, residue(n, p))
		v, _ := zint.Small(n)
		small[i] = int(v)
	}
	check.Same(t, call+": product", fmt.Sprint(f.times(small, a)), fmt.Sprint(b))
	for _, place := range zeros {
		check.Same(t, fmt.Sprintf("%s: place %d of %v", call, place, small), small[place], 0)
	}
}
