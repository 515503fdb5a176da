package check

import (
	"slices"

	"trellis/api"
)

// Plus and Minus are integers by their words, just as they are handed in, in least form or not.
func Plus(words ...uint64) api.Int { return api.Int{Mag: words} }

func Minus(words ...uint64) api.Int { return api.Int{Neg: true, Mag: words} }

// Num is v in least form.
func Num(v int) api.Int {
	switch {
	case v < 0:
		return Minus(-uint64(v))
	case v == 0:
		return Plus()
	default:
		return Plus(uint64(v))
	}
}

// Nums is a list of integers in least form.
func Nums(values ...int) []api.Int {
	all := make([]api.Int, len(values))
	for i, v := range values {
		all[i] = Num(v)
	}
	return all
}

// Over is n divided by d, just as it is handed in, in lowest terms or not.
func Over(n, d int) api.Frac { return api.Frac{Num: Num(n), Den: Num(d)} }

// Zeros are forms of 0.
func Zeros() []api.Int {
	return []api.Int{Plus(), Minus(), {Mag: nil}, {Neg: true, Mag: nil}, Plus(0), Minus(0), Plus(0, 0, 0), Minus(0, 0, 0)}
}

// Signs are the integers of each size with each sign.
func Signs(sizes [][]uint64) []api.Int {
	var all []api.Int
	for _, size := range sizes {
		all = append(all, api.Int{Mag: size}, api.Int{Neg: true, Mag: size})
	}
	return all
}

// Integers are of many sizes, in least form or not, with each sign.
func Integers() []api.Int {
	long := append(Mixed(9, 3), 0, 0)
	return Signs(append(ShortSamples(2), []uint64{0, 0, 1}, Repeat(Top, 3), []uint64{1, 0, High, 0}, []uint64{Top, 0, Top}, Mixed(5, 1), Mixed(7, 2), long))
}

// Ints holds the list of integers that a call answers against the one that it must answer, each in least form.
func Ints(t Reporter, call string, got, want []api.Int) {
	t.Helper()
	if !sameInts(got, want) {
		t.Errorf("%s: %v, want %v", call, got, want)
	}
}

// Frac holds the fraction that a call answers against the one that it must answer, number by number: so lowest terms are asked for too.
func Frac(t Reporter, call string, got, want api.Frac) {
	t.Helper()
	if !sameInt(got.Num, want.Num) || !sameInt(got.Den, want.Den) {
		t.Errorf("%s: %v, want %v", call, got, want)
	}
}

func sameInts(a, b []api.Int) bool {
	return slices.EqualFunc(a, b, sameInt)
}

func sameInt(a, b api.Int) bool {
	return a.Neg == b.Neg && slices.Equal(a.Mag, b.Mag)
}
