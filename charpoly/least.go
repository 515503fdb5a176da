package charpoly

import (
	"trellis/api"
	"trellis/mat"
	"trellis/zint"
)

// leastPolynomial is that of a, which is square.
// The inverse of x times the unit matrix less a is the adjugate over the characteristic polynomial. In lowest terms the least polynomial stands below; and in lowest terms for some rows alone, the least one that makes zero of these rows.
func leastPolynomial(a api.Mat) []api.Int {
	p := characteristic(a)
	shared, least := p, []api.Int{zint.Of(1)}
	unit, _ := mat.Unit(a.Rows)
	for _, row := range mat.Lines(unit) {
		// The characteristic polynomial makes zero of all rows.
		if len(least) == len(p) {
			break
		}
		if !isZero(tails(row, least, a)[0]) {
			shared = commonWith(shared, adjugateTimes(row, a, p))
			least, _, _ = DivMonic(p, shared)
		}
	}
	return least
}

func isZero(row []api.Int) bool {
	return len(significant(row)) == 0
}

// commonWith is the greatest common divisor of p, which is monic, and the polynomials that stand in the columns: their coefficients of x^0 in the first row, those of x^1 in the next.
func commonWith(p []api.Int, rows [][]api.Int) []api.Int {
	for j := range rows[0] {
		column := make([]api.Int, len(rows))
		for i, row := range rows {
			column[i] = row[j]
		}
		p = common(p, column)
	}
	return p
}
