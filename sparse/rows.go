package sparse

import (
	"maps"

	"trellis/api"
	"trellis/zint"
)

// spot is where a number of a grid stands.
type spot struct{ row, col int }

// numbers are what stands at the places that a grid holds: none of them is 0, each is in least form and in memory that nothing else has.
type numbers map[spot]api.Int

// AddRow: k times row j is added to row i.
func (g *Grid) AddRow(i, j int, k api.Int) api.Errno {
	if !g.hasRow(i) || !g.hasRow(j) {
		return api.ErrArg
	}
	// Reckoned beside g, so that a refusal leaves g as it was.
	after := maps.Clone(g.at)
	after.addTimes(i, k, g.at.row(j))
	if len(after) > api.MaxEntries {
		clear(after)
		return api.ErrLarge
	}
	clear(g.at)
	g.at = after
	return api.OK
}

// Swap: the rows i and j change places.
func (g *Grid) Swap(i, j int) api.Errno {
	if !g.hasRow(i) || !g.hasRow(j) {
		return api.ErrArg
	}
	if i == j {
		return api.OK
	}
	one, other := g.at.row(i), g.at.row(j)
	g.at.drop(i)
	g.at.drop(j)
	g.at.lay(i, other)
	g.at.lay(j, one)
	return api.OK
}

// Clear: row i is zero from now on.
func (g *Grid) Clear(i int) api.Errno {
	if !g.hasRow(i) {
		return api.ErrArg
	}
	g.at.drop(i)
	return api.OK
}

// put lets n, which nothing else may keep, stand at a place from now on.
func (all numbers) put(here spot, n api.Int) {
	if zint.Sign(n) == 0 {
		delete(all, here)
		return
	}
	all[here] = n
}

// row is what stands in row i, in a map of its own: so all may be changed while it is gone through.
func (all numbers) row(i int) numbers {
	row := numbers{}
	for s, n := range all {
		if s.row == i {
			row[s] = n
		}
	}
	return row
}

// byRows is each row that holds something, by its number.
func (all numbers) byRows() map[int]numbers {
	rows := map[int]numbers{}
	for s, n := range all {
		if rows[s.row] == nil {
			rows[s.row] = numbers{}
		}
		rows[s.row][s] = n
	}
	return rows
}

// drop takes row i out.
func (all numbers) drop(i int) {
	for s := range all {
		if s.row == i {
			delete(all, s)
		}
	}
}

// lay puts a row, wherever it comes from, into row i, in which nothing stands.
func (all numbers) lay(i int, row numbers) {
	for s, n := range row {
		all[spot{i, s.col}] = n
	}
}

// addTimes adds k times a row, wherever it comes from, to row i.
func (all numbers) addTimes(i int, k api.Int, row numbers) {
	for s, n := range row {
		here := spot{i, s.col}
		all.put(here, zint.MulAdd(k, n, all[here]))
	}
}
