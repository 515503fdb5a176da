package group

import (
	"testing"

	"trellis/check"
	"trellis/made"
	"trellis/zint"
)

// P22.5, its way: the numbers of c that count modulo a factor are told as short as may be.
func TestShortNumbers(t *testing.T) {
	for seed := range 40 {
		s := made.Source{Words: seed % 3, Seed: uint64(seed)}
		c, m, _ := Coords(s.OfRank(4+seed%3, 5, 2+seed%4))
		for i, n := range c.At {
			factor := m[i%c.Cols]
			if zint.Sign(factor) > 0 {
				check.Same(t, "is it from 0 on, below the factor", zint.Sign(n) >= 0 && zint.Cmp(n, factor) < 0, true)
			}
		}
	}
}
