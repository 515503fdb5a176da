package lll

import (
	"slices"

	"trellis/api"
	"trellis/frac"
	"trellis/mat"
	"trellis/zint"
)

// row is a row of entries, and what goes with it wherever it goes.
type row struct {
	line []api.Int
	// by times a matrix is the line, where it is to be known how the row is made.
	by []api.Int
	// shadow is the one that the row casts on the rows of a frame.
	shadow []api.Int
}

// frame are rows b0, b1, .. with what there is to know of c0, c1, .., told without fractions. Let dk be number k that Dets tells of the lines: then dk times ck is a row of integers, and ck . ck is d(k+1) / dk.
// At place k of the shadow of a row w stands dk times w . ck. So in bi's own shadow d(i+1) stands at place i, where it ends, as bi . ck is 0 from there on; and mu(i, k) is what stands at place k, divided by d(k+1).
type frame []row

// frameOf are the rows of a sound matrix, and whether they are independent: if not, there are only those that come before the first that is a combination of others.
func frameOf(b api.Mat) (rows frame, independent bool) {
	for i, line := range mat.Lines(b) {
		rows = append(rows, rows.cast(line, nil))
		if isZero(rows.det(i + 1)) {
			return rows[:i], false
		}
	}
	return rows, true
}

// cast is a row with its shadow on all rows of f, which are independent, and on itself as the next of them.
func (f frame) cast(line, by []api.Int) row {
	var shadow []api.Int
	for _, r := range f {
		shadow = append(shadow, f.upright(line, r.line, shadow, r.shadow))
	}
	return row{line, by, append(shadow, f.upright(line, line, shadow, shadow))}
}

// upright is the product of the parts of two rows that stand at a right angle to the first k rows, times dk: k is how many places the first shadow has.
func (f frame) upright(line, other, shadow, shadowOfOther []api.Int) api.Int {
	// The lines are equally long, so there is no error.
	product, _ := zint.Dot(line, other)
	for k, n := range shadow {
		along := zint.Mul(n, shadowOfOther[k])
		product = over(zint.Sub(zint.Mul(f.det(k+1), product), along), f.det(k))
	}
	return product
}

// det is dk.
func (f frame) det(k int) api.Int {
	if k == 0 {
		return zint.Of(1)
	}
	return f[k-1].shadow[k-1]
}

// nearest is the integer nearest to (w . ci) / (ci . ci) of a row w; of two the even one.
func (f frame) nearest(w row, i int) api.Int {
	// Of independent rows no d is 0, so there is no error.
	times, _ := frac.Nearest(api.Frac{Num: w.shadow[i], Den: f.det(i + 1)})
	return times
}

// isReduced says if independent rows are a reduced basis.
func (f frame) isReduced() bool {
	for i := range f {
		for j := range i {
			if !f.isShort(i, j) {
				return false
			}
		}
		if !f.isInOrder(i) {
			return false
		}
	}
	return true
}

// isShort says if -1/2 <= mu(i, j) <= 1/2.
func (f frame) isShort(i, j int) bool {
	n := f[i].shadow[j]
	return zint.CmpAbs(zint.Add(n, n), f.det(j+1)) <= 0
}

// isInOrder says if ci is not too short for row i to stand below the one above it.
func (f frame) isInOrder(i int) bool {
	if i == 0 {
		return true
	}
	// The chapter's condition times 4, times d(i-1) and times di.
	n, d := f[i].shadow[i-1], f.det(i)
	has := zint.MulAdd(n, n, zint.Mul(f.det(i-1), f.det(i+1)))
	return zint.Cmp(zint.Mul(zint.Of(4), has), zint.Mul(zint.Of(3), zint.Mul(d, d))) >= 0
}

// less is a row less another, as often as times says; the other's shadow is not the longer one.
func (r row) less(other row, times api.Int) row {
	if isZero(times) {
		return r
	}
	return row{
		line:   takenOff(r.line, other.line, times),
		by:     takenOff(r.by, other.by, times),
		shadow: takenOff(r.shadow, other.shadow, times),
	}
}

// takenOff is a list less another, as often as times says, as far as the other goes.
func takenOff(list, other []api.Int, times api.Int) []api.Int {
	left := slices.Clone(list)
	for i, n := range other {
		left[i] = zint.Sub(left[i], zint.Mul(times, n))
	}
	return left
}

// over is a divided by b, which is not 0 and leaves no rest: so there is no error.
func over(a, b api.Int) api.Int {
	quotient, _ := zint.Exact(a, b)
	return quotient
}

func isZero(n api.Int) bool { return zint.Sign(n) == 0 }

func areZero(list []api.Int) bool {
	return !slices.ContainsFunc(list, func(n api.Int) bool { return !isZero(n) })
}
