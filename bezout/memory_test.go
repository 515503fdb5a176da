package bezout_test

import (
	"fmt"
	"slices"
	"testing"

	"trellis/api"
	"trellis/bezout"
	"trellis/check"
)

// memorySizes are what the memory tests hand in.
func memorySizes() []list {
	return []list{nil, {0, 0}, {1}, {6}, {2, 0}, {15, 0, 0}, {top, top}, {0, 0, 1}, append(check.Mixed(7, 5), 0, 0)}
}

// much is a modulus above all that the memory tests hand in, so that nothing has to be taken from it.
func much() api.Int {
	return plus(check.Repeat(top, 10)...)
}

// intCalls are the calls that answer an integer, those among them whose answer is just what was handed in, where sharing would tempt most.
func intCalls() map[string]func(a, b api.Int) api.Int {
	pow := func(a, e, m api.Int) api.Int {
		got, _ := bezout.PowMod(a, e, m)
		return got
	}
	lead := func(list ...api.Int) api.Int {
		g, _ := bezout.ExtAll(list)
		return g
	}
	return map[string]func(a, b api.Int) api.Int{
		"Gcd(a, b)":          bezout.Gcd,
		"Gcd(a, 0)":          func(a, b api.Int) api.Int { return bezout.Gcd(a, plus()) },
		"Gcd(0, a)":          func(a, b api.Int) api.Int { return bezout.Gcd(plus(), a) },
		"Gcd(a, a)":          func(a, b api.Int) api.Int { return bezout.Gcd(a, a) },
		"GcdAll()":           func(a, b api.Int) api.Int { return bezout.GcdAll(nil) },
		"GcdAll(a)":          func(a, b api.Int) api.Int { return bezout.GcdAll([]api.Int{a}) },
		"GcdAll(0, a, b)":    func(a, b api.Int) api.Int { return bezout.GcdAll([]api.Int{{}, a, b}) },
		"Lcm(a, b)":          bezout.Lcm,
		"Lcm(a, 1)":          func(a, b api.Int) api.Int { return bezout.Lcm(a, plus(1)) },
		"Lcm(1, a)":          func(a, b api.Int) api.Int { return bezout.Lcm(plus(1), a) },
		"Lcm(a, a)":          func(a, b api.Int) api.Int { return bezout.Lcm(a, a) },
		"Ext(a, b), g":       func(a, b api.Int) api.Int { g, _, _ := bezout.Ext(a, b); return g },
		"Ext(a, b), x":       func(a, b api.Int) api.Int { _, x, _ := bezout.Ext(a, b); return x },
		"Ext(a, b), y":       func(a, b api.Int) api.Int { _, _, y := bezout.Ext(a, b); return y },
		"Ext(a, 0), g":       func(a, b api.Int) api.Int { g, _, _ := bezout.Ext(a, plus()); return g },
		"Ext(a, 0), x":       func(a, b api.Int) api.Int { _, x, _ := bezout.Ext(a, plus()); return x },
		"ExtAll(a), g":       func(a, b api.Int) api.Int { return lead(a) },
		"ExtAll(a, b, a), g": func(a, b api.Int) api.Int { return lead(a, b, a) },
		"Inverse(a, b)":      check.Alone(bezout.Inverse),
		"Inverse(1, a)":      func(a, b api.Int) api.Int { return check.Alone(bezout.Inverse)(plus(1), a) },
		"PowMod(a, a, b)":    func(a, b api.Int) api.Int { return pow(a, a, b) },
		"PowMod(a, 0, b)":    func(a, b api.Int) api.Int { return pow(a, plus(), b) },
		"PowMod(a, 1, much)": func(a, b api.Int) api.Int { return pow(a, plus(1), much()) },
		"PowMod(a, 1, b)":    func(a, b api.Int) api.Int { return pow(a, plus(1), b) },
		"PowMod(a, -1, b)":   func(a, b api.Int) api.Int { return pow(a, minus(1), b) },
	}
}

// crtCalls are those that put two remainders together, or one alone, by their names.
func crtCalls() map[string]func(a, b api.Int) (api.Int, api.Int, api.Errno) {
	return map[string]func(a, b api.Int) (api.Int, api.Int, api.Errno){
		"Crt(a, b, a, b)":    func(a, b api.Int) (api.Int, api.Int, api.Errno) { return bezout.Crt(a, b, a, b) },
		"Crt(a, much, 0, 1)": func(a, b api.Int) (api.Int, api.Int, api.Errno) { return bezout.Crt(a, much(), plus(), plus(1)) },
		"Crt(0, 1, a, much)": func(a, b api.Int) (api.Int, api.Int, api.Errno) { return bezout.Crt(plus(), plus(1), a, much()) },
		"Crt(1, a, 0, b)":    func(a, b api.Int) (api.Int, api.Int, api.Errno) { return bezout.Crt(plus(1), a, plus(), b) },
		"CrtAll of none":     func(a, b api.Int) (api.Int, api.Int, api.Errno) { return bezout.CrtAll(nil, nil) },
		"CrtAll of a, b": func(a, b api.Int) (api.Int, api.Int, api.Errno) {
			return bezout.CrtAll([]api.Int{a}, []api.Int{b})
		},
		"CrtAll of a, much": func(a, b api.Int) (api.Int, api.Int, api.Errno) {
			return bezout.CrtAll([]api.Int{a}, []api.Int{much()})
		},
	}
}

// R4: what is handed in stays as it is, spare room included, and an answer has memory of its own, its spare room too.
func TestMemory(t *testing.T) {
	calls := intCalls()
	for name, call := range crtCalls() {
		calls[name+", r"] = check.First(call)
		calls[name+", m"] = check.Second(call)
	}
	check.IntMemory(t, calls, memorySizes())
}

// R4: the integers of one answer share no memory.
func TestIntegersOfOneAnswer(t *testing.T) {
	for _, a := range check.Signs(memorySizes()) {
		for _, b := range check.Signs(memorySizes()) {
			g, x, y := bezout.Ext(a, b)
			check.Apart(t, fmt.Sprintf("Ext(%v, %v)", a, b), g.Mag, x.Mag, y.Mag)
			g, all := bezout.ExtAll([]api.Int{a, b, a})
			check.Apart(t, fmt.Sprintf("ExtAll(%v, %v, %v)", a, b, a), g.Mag, all[0].Mag, all[1].Mag, all[2].Mag)
			for name, call := range crtCalls() {
				r, m, _ := call(a, b)
				check.Apart(t, fmt.Sprintf("%s with %v and %v", name, a, b), r.Mag, m.Mag)
			}
		}
	}
}

// R4 for lists of integers, as they go in and as they come out.
func TestListMemory(t *testing.T) {
	calls := map[string]func(list []api.Int) []api.Int{
		"ExtAll": func(list []api.Int) []api.Int {
			_, multipliers := bezout.ExtAll(list)
			return multipliers
		},
		"ExtAll, the divisor": func(list []api.Int) []api.Int {
			g, _ := bezout.ExtAll(list)
			return []api.Int{g}
		},
		"GcdAll": func(list []api.Int) []api.Int { return []api.Int{bezout.GcdAll(list)} },
		// The moduli stand in the spare room of the remainders.
		"CrtAll of the halves": func(list []api.Int) []api.Int {
			half := len(list) / 2
			r, m, _ := bezout.CrtAll(list[:half], list[half:])
			return []api.Int{r, m}
		},
	}
	check.ListMemory(t, calls, [][]api.Int{
		nil, nums(5), nums(-5), nums(0), nums(0, 0), nums(6, 10, 15), nums(3, 7), nums(-1, 3, 2, 5, 4, 21), nums(1, 2, 4, 6), nums(1, 0),
		{plus(5, 0), minus(0), plus(top, top, 0), minus(0, 1), plus(1), plus(3, 3)},
		check.Integers()[10:20],
	})
}

// R4 where the words that are handed in are pieces of one list.
func TestOverlap(t *testing.T) {
	whole := list{6, 0, 10, 0, 15}
	start := slices.Clone(whole)
	g, multipliers := bezout.ExtAll([]api.Int{plus(whole[:2]...), plus(whole[2:4]...), plus(whole[4:]...)})
	check.Int(t, "ExtAll of pieces, the divisor", g, num(1))
	check.Ints(t, "ExtAll of pieces", multipliers, nums(16, -8, -1))
	r, m, e := bezout.Crt(minus(whole[:2]...), plus(whole[4:]...), plus(whole[4:]...), minus(whole[:1]...))
	check.Int(t, "Crt of pieces, r", r, num(9))
	check.Int(t, "Crt of pieces, m", m, num(30))
	check.Same(t, "Crt of pieces", e, api.OK)
	check.Words(t, "what was handed in", whole, start)
}
