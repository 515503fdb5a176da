package modp

import (
	"slices"

	"trellis/api"
	"trellis/zint"
)

// sheet is a matrix of least residues modulo p, line by line. As p is below 2^31, no product of two residues, nor one with a residue added to it, outgrows a word.
type sheet struct {
	p     uint64
	cols  int
	lines [][]uint64
}

// sheetOf is a, which is sound, modulo p.
func sheetOf(a api.Mat, p uint64) sheet {
	s := sheet{p: p, cols: a.Cols}
	for i := range a.Rows {
		s.lines = append(s.lines, s.residues(a.At[i*a.Cols:(i+1)*a.Cols]))
	}
	return s
}

// residues are the least residues of a list of integers.
func (s sheet) residues(list []api.Int) []uint64 {
	p := zint.Of(int64(s.p))
	line := make([]uint64, len(list))
	for j, n := range list {
		// Neither has an error: p is not 0, and what is below it is small.
		rest, _ := zint.Mod(n, p)
		small, _ := zint.Small(rest)
		line[j] = uint64(small)
	}
	return line
}

// integers are the residues of a line as they are told, each in memory of its own.
func integers(line []uint64) []api.Int {
	list := make([]api.Int, len(line))
	for j, residue := range line {
		list[j] = zint.Of(int64(residue))
	}
	return list
}

func (s sheet) matrix() api.Mat {
	return api.Mat{Rows: len(s.lines), Cols: s.cols, At: integers(slices.Concat(s.lines...))}
}

// besideUnit is s with the unit matrix at its right.
func (s sheet) besideUnit() sheet {
	joined := sheet{p: s.p, cols: s.cols + len(s.lines)}
	for i, line := range s.lines {
		wide := make([]uint64, joined.cols)
		copy(wide, line)
		wide[s.cols+i] = 1
		joined.lines = append(joined.lines, wide)
	}
	return joined
}

// corner is what s has from line top on and from column left on, still in its memory.
func (s sheet) corner(top, left int) sheet {
	part := sheet{p: s.p, cols: s.cols - left}
	for _, line := range s.lines[top:] {
		part.lines = append(part.lines, line[left:])
	}
	return part
}

// reduce brings s to its reduced echelon form. It answers the columns of the pivots, and the number by which the form's determinant is to be multiplied for that of s as it was.
func (s sheet) reduce() (pivots []int, factor uint64) {
	factor = 1
	for c := range s.cols {
		top := len(pivots)
		from := slices.IndexFunc(s.lines[top:], func(line []uint64) bool { return line[c] != 0 })
		if from < 0 {
			continue
		}
		if from > 0 {
			s.lines[top], s.lines[top+from] = s.lines[top+from], s.lines[top]
			factor = s.minus(factor)
		}
		factor = factor * s.lines[top][c] % s.p
		s.divide(s.lines[top], s.lines[top][c])
		for i, line := range s.lines {
			if i != top {
				s.take(line, line[c], s.lines[top])
			}
		}
		pivots = append(pivots, c)
	}
	return pivots, factor
}

// divide divides a line by a residue that is not 0.
func (s sheet) divide(line []uint64, by uint64) {
	times := s.inverse(by)
	for j, residue := range line {
		line[j] = residue * times % s.p
	}
}

// take takes the other line from a line, as often as times says.
func (s sheet) take(line []uint64, times uint64, other []uint64) {
	// Most matrices have many zeros, and a line with one is gone through in vain.
	if times == 0 {
		return
	}
	// Added as often as it lacks to p, so that nothing goes below 0.
	lack := s.p - times
	for j, residue := range other {
		line[j] = (line[j] + lack*residue) % s.p
	}
}

func (s sheet) minus(residue uint64) uint64 {
	return (s.p - residue) % s.p
}

// inverse is the residue whose product with x, which is not 0, is 1.
func (s sheet) inverse(x uint64) uint64 {
	// Modulo a prime, x to the power p - 1 is 1: so to the power p - 2 it is its inverse.
	power := uint64(1)
	for rest := s.p - 2; rest > 0; rest /= 2 {
		if rest%2 == 1 {
			power = power * x % s.p
		}
		x = x * x % s.p
	}
	return power
}
