// Package check is what the tests of the layers share. No layer calls it.
package check

import (
	"slices"

	"trellis/api"
)

// Reporter is what a test is told faults by: *testing.T is one.
type Reporter interface {
	Helper()
	Errorf(format string, args ...any)
}

// Top is the greatest word, High the word with its highest binary digit alone.
const (
	Top  = 1<<64 - 1
	High = 1 << 63
)

// Same holds what a call answers against what it must answer.
func Same[V comparable](t Reporter, call string, got, want V) {
	t.Helper()
	if got != want {
		t.Errorf("%s: %v, want %v", call, got, want)
	}
}

// Words holds the list that a call answers against the one that it must answer, word by word: so the least form is asked for too.
func Words(t Reporter, call string, got, want []uint64) {
	t.Helper()
	if !slices.Equal(got, want) {
		t.Errorf("%s: %#x, want %#x", call, got, want)
	}
}

// Int holds the integer that a call answers against the one that it must answer, sign and words: so the least form is asked for too.
func Int(t Reporter, call string, got, want api.Int) {
	t.Helper()
	if !sameInt(got, want) {
		t.Errorf("%s: %v, want %v", call, got, want)
	}
}

// Repeat is a list of n words w.
func Repeat(w uint64, n int) []uint64 {
	return slices.Repeat([]uint64{w}, n)
}

// Samples is every list of at most three words out of a few telling ones, zero words at the high end among them.
func Samples() [][]uint64 {
	all := [][]uint64{nil}
	for from := 0; len(all[from]) < 3; from++ {
		for _, w := range []uint64{0, 1, High, Top, 0x0123456789abcdef} {
			all = append(all, append(slices.Clone(all[from]), w))
		}
	}
	return all
}

// ShortSamples are those samples that have at most so many words.
func ShortSamples(words int) [][]uint64 {
	return slices.DeleteFunc(Samples(), func(a []uint64) bool { return len(a) > words })
}

// Mixed is a list of n words without order, other ones for each seed, with zero and greatest words between.
func Mixed(n int, seed uint64) []uint64 {
	a := make([]uint64, n)
	x := seed
	for i := range a {
		x = x*6364136223846793005 + 1442695040888963407
		switch x >> 59 {
		case 0:
			a[i] = 0
		case 1:
			a[i] = Top
		default:
			a[i] = x ^ x>>29
		}
	}
	return a
}
