package lll

import (
	"slices"

	"trellis/api"
	"trellis/zint"
)

// reduced is a reduced basis of a sound matrix's lattice.
func reduced(a api.Mat) frame {
	return allTaken(begun(a))
}

// allTaken is a reduced basis of the lattice of some rows.
func allTaken(rows []row) frame {
	var f frame
	// The next one stands last.
	waiting := slices.Clone(rows)
	slices.Reverse(waiting)
	for len(waiting) > 0 {
		last := len(waiting) - 1
		taken, aside := f.take(waiting[last])
		f, waiting = taken, append(waiting[:last], aside...)
	}
	return f
}

// take takes one row more into a reduced basis, and reduces again. Rows that have to make way are set aside, the last one first: they are to be taken again.
// There is an end to it. Each exchange of rows leaves at most 3/4 of the product of those d that are not 0, and they are integers; or a row is set aside. That is done only for a row that is a combination of the others; that one never stands in order, but goes up until it is zero and falls away: so each time there are fewer rows in all.
func (f frame) take(next row) (taken frame, aside []row) {
	k := len(f)
	f = append(f, f.cast(next.line, next.by))
	for k < len(f) {
		f.shorten(k)
		switch {
		case areZero(f[k].shadow):
			// It is the last row: no other is a combination of those above it.
			return f[:k], aside
		case f.isInOrder(k):
			k++
		default:
			f.exchange(k)
			if isZero(f.det(k)) {
				// The upper one of the two is a combination of those above it, and the lower one is not: with that one aside it is the last row again.
				aside = append(aside, f[k])
				f = f[:k]
			}
			k--
		}
	}
	return f, aside
}

// shorten takes off row k the rows above it, so often that no mu(k, i) is beyond 1/2.
func (f frame) shorten(k int) {
	// The last one first, as it has a shadow on those above it.
	for i := k - 1; i >= 0; i-- {
		if !f.isShort(k, i) {
			f[k] = f[k].less(f[i], f.nearest(f[k], i))
		}
	}
}

// exchange makes row k and the one above it change places.
// Then c(k-1) is the sum of what was ck and of mu times what was c(k-1), with mu(k, k-1) as it was; and the new ck is what the row that is now below has at a right angle to that. All shadows follow, and what the one row had on the other, the other has on it.
func (f frame) exchange(k int) {
	upper, lower := f[k-1], f[k]
	before, d, behind := f.det(k-1), f.det(k), f.det(k+1)
	cross := lower.shadow[k-1]
	between := over(zint.MulAdd(cross, cross, zint.Mul(before, behind)), d)
	f[k-1] = row{lower.line, lower.by, slices.Concat(lower.shadow[:k-1], []api.Int{between})}
	f[k] = row{upper.line, upper.by, slices.Concat(upper.shadow[:k-1], []api.Int{cross, behind})}
	for _, r := range f[k+1:] {
		onUpper, onLower := r.shadow[k-1], r.shadow[k]
		r.shadow[k-1] = over(zint.MulAdd(cross, onUpper, zint.Mul(before, onLower)), d)
		r.shadow[k] = over(zint.Sub(zint.Mul(behind, onUpper), zint.Mul(cross, onLower)), d)
	}
}
