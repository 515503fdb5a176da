package syntax

import (
	"slices"
	"strconv"
	"strings"

	"trellis/api"
	"trellis/frac"
)

// gridText is the text of a matrix of that shape with the texts of its entries. Without entries it is told by its shape alone.
func gridText(rows, cols int, entries []string) string {
	if len(entries) == 0 {
		return "[" + strconv.Itoa(rows) + ":" + strconv.Itoa(cols) + "]"
	}
	var lines []string
	for row := range slices.Chunk(entries, cols) {
		lines = append(lines, strings.Join(row, " "))
	}
	return "[" + strings.Join(lines, "; ") + "]"
}

// facetsText is the text of a complex whose numbers have these texts.
func facetsText[N any](facets [][]N, text func(N) string) string {
	simplexes := each(facets, func(facet []N) string {
		return strings.Join(each(facet, text), " ")
	})
	return "{" + strings.Join(simplexes, ", ") + "}"
}

// fracText is for a fraction of which it is known that its denominator is not 0.
func fracText(f api.Frac) string {
	text, _ := frac.Text(f)
	return text
}

// each is the list of what change makes of the items of a list.
func each[From, To any](list []From, change func(From) To) []To {
	changed := make([]To, len(list))
	for i, item := range list {
		changed[i] = change(item)
	}
	return changed
}
