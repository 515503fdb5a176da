package steps

import (
	"trellis/api"
	"trellis/zint"
)

// step is a step inside, a kind for each of those that an api.Step may be.
type step interface {
	// fits says if n lines bear it; nothing else may be asked of one that does not fit.
	fits(n int) bool
	do(lines [][]api.Int)
	// back is the step that takes it back.
	back() step
	// sign is the determinant of its matrix.
	sign() int
}

type swap struct{ i, j int }

type negate struct{ i int }

// add has a number in least form, in memory that nothing else has.
type add struct {
	i, j int
	k    api.Int
}

func isLine(i, n int) bool { return 0 <= i && i < n }

func (s swap) fits(n int) bool { return isLine(s.i, n) && isLine(s.j, n) }

func (s negate) fits(n int) bool { return isLine(s.i, n) }

func (s add) fits(n int) bool { return isLine(s.i, n) && isLine(s.j, n) && s.i != s.j }

func (s swap) do(lines [][]api.Int) {
	lines[s.i], lines[s.j] = lines[s.j], lines[s.i]
}

func (s negate) do(lines [][]api.Int) {
	line := lines[s.i]
	for place, n := range line {
		line[place] = zint.Neg(n)
	}
}

func (s add) do(lines [][]api.Int) {
	line := lines[s.i]
	for place, n := range lines[s.j] {
		line[place] = zint.MulAdd(s.k, n, line[place])
	}
}

func (s swap) back() step { return s }

func (s negate) back() step { return s }

func (s add) back() step { return add{s.i, s.j, zint.Neg(s.k)} }

func (s swap) sign() int {
	// A line that changes places with itself changes nothing.
	if s.i == s.j {
		return 1
	}
	return -1
}

func (s negate) sign() int { return -1 }

func (s add) sign() int { return 1 }

// of is the step that s says, without a look at the fields that have no meaning there; nil, if there is no such kind.
func of(s api.Step) step {
	switch s.Kind {
	case api.Swap:
		return swap{s.I, s.J}
	case api.Negate:
		return negate{s.I}
	case api.Add:
		return add{s.I, s.J, zint.Least(s.K)}
	}
	return nil
}

func isFit(n int, s api.Step) bool {
	one := of(s)
	return one != nil && one.fits(n)
}

// inner are the steps that a list says, if n lines bear all of them.
func inner(n int, s []api.Step) ([]step, api.Errno) {
	if _, e := Check(n, s); e != api.OK {
		return nil, e
	}
	list := make([]step, 0, len(s))
	for _, one := range s {
		list = append(list, of(one))
	}
	return list, api.OK
}

// outer tells a step, in memory of its own.
func outer(one step) api.Step {
	switch s := one.(type) {
	case swap:
		return api.Step{Kind: api.Swap, I: s.i, J: s.j}
	case negate:
		return api.Step{Kind: api.Negate, I: s.i}
	case add:
		return api.Step{Kind: api.Add, I: s.i, J: s.j, K: zint.Least(s.k)}
	}
	return api.Step{}
}
