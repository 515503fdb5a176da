package rref

import (
	"slices"

	"trellis/api"
	"trellis/bezout"
	"trellis/frac"
	"trellis/zint"
)

// integers is what an elimination knows of integers.
func integers() arithmetic[api.Int] {
	return arithmetic[api.Int]{
		one:    zint.Of(1),
		isZero: func(a api.Int) bool { return zint.Sign(a) == 0 },
		times:  zint.Mul,
		less:   zint.Sub,
		over: func(a, b api.Int) api.Int {
			quotient, _ := zint.Exact(a, b)
			return quotient
		},
	}
}

// eliminated is the form of lines of fractions. They are made whole first, which leaves the form as it is: among integers nothing has to be brought to lowest terms on the way.
func eliminated(lines [][]api.Frac, cols int) elimination[api.Int] {
	whole, _ := wholeLines(lines)
	return eliminate(integers(), whole, cols)
}

// wholeLines are the lines made whole, and the numbers that do it.
func wholeLines(lines [][]api.Frac) (whole [][]api.Int, by []api.Int) {
	for _, line := range lines {
		list, number := wholeLine(line)
		whole = append(whole, list)
		by = append(by, number)
	}
	return whole, by
}

// wholeLine is a line times the least number above 0 that makes it whole, and that number.
func wholeLine(line []api.Frac) ([]api.Int, api.Int) {
	lowest := make([]api.Frac, len(line))
	by := zint.Of(1)
	for i, f := range line {
		// Every one is a fraction, so there is no error.
		lowest[i], _ = frac.Of(f.Num, f.Den)
		by = bezout.Lcm(by, lowest[i].Den)
	}
	whole := make([]api.Int, len(line))
	for i, f := range lowest {
		times, _ := zint.Exact(by, f.Den)
		whole[i] = zint.Mul(f.Num, times)
	}
	return whole, by
}

// over is each number of a list over a number that is not 0.
func over(list []api.Int, number api.Int) []api.Frac {
	fractions := make([]api.Frac, len(list))
	for i, n := range list {
		fractions[i], _ = frac.Of(n, number)
	}
	return fractions
}

// atPivots is a list of n numbers: at the place of each pivot, what its line has in a column, and 0 in all other places.
func atPivots(form elimination[api.Int], column, n int) []api.Int {
	list := make([]api.Int, n)
	for i, place := range form.pivots {
		list[place] = form.lines[i][column]
	}
	return list
}

// rowsOf are the rows of q, in q's own memory.
func rowsOf(q api.QMat) [][]api.Frac {
	rows := make([][]api.Frac, q.Rows)
	for i := range rows {
		rows[i] = q.At[i*q.Cols : (i+1)*q.Cols : (i+1)*q.Cols]
	}
	return rows
}

// columnsOf are the columns of q, lists of their own whose numbers have q's memory.
func columnsOf(q api.QMat) [][]api.Frac {
	columns := make([][]api.Frac, q.Cols)
	for _, row := range rowsOf(q) {
		for j, f := range row {
			columns[j] = append(columns[j], f)
		}
	}
	return columns
}

// upended are the columns of q, each with its last entry first: taken as lines, they say what an x with xq = 0, or with xq a given row, must meet.
// A column of their form has no first one just if it is a combination of those to its left. Turned back, it stands for a row of q that is a combination of rows below it: in those places the kernel has its first ones, and x is free.
func upended(q api.QMat) [][]api.Frac {
	columns := columnsOf(q)
	for _, column := range columns {
		slices.Reverse(column)
	}
	return columns
}

// besideUnit are the rows of q with those of the unit matrix at their right.
func besideUnit(q api.QMat) [][]api.Frac {
	one := zint.Of(1)
	var lines [][]api.Frac
	for i, row := range rowsOf(q) {
		unit := over(make([]api.Int, q.Rows), one)
		unit[i] = api.Frac{Num: one, Den: one}
		lines = append(lines, slices.Concat(row, unit))
	}
	return lines
}
