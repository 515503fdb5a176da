package modhnf_test

import (
	"testing"

	"trellis/api"
)

// The examples of the chapter.

func TestExamplesOfForm(t *testing.T) {
	for _, c := range []struct {
		a, form          string
		multiple, volume int
	}{
		{"2 4; 3 6; 5 10", "1 2; 0 0; 0 0", 2, 1}, {"4 0; 0 6; 2 3", "2 3; 0 6; 0 0", 24, 12},
		{"0x3", "0x3", 1, 1}, {"3x0", "3x0", 1, 1}, {"0 0", "0 0", 1, 1}, {"-2", "2", 2, 2},
	} {
		holdForm(t, mx(c.a), mx(c.form))
		holdMultiple(t, mx(c.a), num(c.multiple))
		holdVolume(t, mx(c.a), num(c.volume))
	}
}

func TestExamplesOfModulo(t *testing.T) {
	for _, c := range []struct {
		a    string
		d    int
		want string
	}{
		{"0 0", -5, "5 0; 0 5"}, {"3", 12, "3"}, {"5", 12, "1"}, {"0x2", 7, "7 0; 0 7"}, {"2 1", 4, "2 1; 0 2"}, {"3x0", 1, "0x0"},
		{"4 0; 0 6; 2 3", 24, "2 3; 0 6"}, {"4 0; 0 6; 2 3", 12, "2 3; 0 6"}, {"4 0; 0 6; 2 3", 6, "2 0; 0 3"}, {"4 0; 0 6; 2 3", 3, "1 0; 0 3"},
	} {
		holdModulo(t, mx(c.a), num(c.d), mx(c.want))
	}
	holdRefusal(t, "Modulo at 0", moduloOf(num(0)), mx("1 1"), api.ErrZero)
}
