package rref

import "slices"

// arithmetic is all that an elimination knows of the numbers that it reckons with: no product of theirs is 0 unless a factor is.
type arithmetic[E any] struct {
	one         E
	isZero      func(a E) bool
	times, less func(a, b E) E
	// over is a divided by b: it is asked only where b is not 0 and no rest is left.
	over func(a, b E) E
}

// elimination brings lines, all of one length, to their reduced echelon form. It keeps each line of the form times one number, lead: so all entries are determinants of what it began with, and each division comes out even, among integers too.
type elimination[E any] struct {
	by    arithmetic[E]
	lines [][]E
	// lead is what stands in the place of the first ones.
	lead E
	// pivots are the columns of the first ones, rising.
	pivots []int
}

// eliminate makes the form of lines, which become its own; its first ones stand in the first cols columns.
func eliminate[E any](by arithmetic[E], lines [][]E, cols int) elimination[E] {
	s := elimination[E]{by: by, lines: lines, lead: by.one}
	for c := range cols {
		s.settle(c)
	}
	return s
}

// settle gives column c a first one, if a line that has none yet can have it there.
func (s *elimination[E]) settle(c int) {
	top := len(s.pivots)
	from := slices.IndexFunc(s.lines[top:], func(line []E) bool { return !s.by.isZero(line[c]) })
	if from < 0 {
		return
	}
	s.lines[top], s.lines[top+from] = s.lines[top+from], s.lines[top]
	first := s.lines[top]
	for i, line := range s.lines {
		if i != top {
			s.cross(line, first, c)
		}
	}
	s.lead = first[c]
	s.pivots = append(s.pivots, c)
}

// cross makes the entry of a line in column c 0 by means of the first line, and brings the line from lead to the lead that is to be.
func (s *elimination[E]) cross(line, first []E, c int) {
	pivot, times := first[c], line[c]
	for j, entry := range line {
		// Most lines have many zeros, and they stay.
		if s.by.isZero(entry) && (s.by.isZero(times) || s.by.isZero(first[j])) {
			continue
		}
		crossed := s.by.less(s.by.times(pivot, entry), s.by.times(times, first[j]))
		line[j] = s.by.over(crossed, s.lead)
	}
}
