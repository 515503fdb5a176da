package syntax

import (
	"testing"

	"trellis/api"
	"trellis/check"
)

// The way of this layer: a fault deep inside gives up by panic, and is caught at the face.

func TestCaught(t *testing.T) {
	steps := 0
	var down func(deep int)
	down = func(deep int) {
		if deep == 0 {
			giveUp(7, api.ErrGram)
		}
		steps++
		down(deep - 1)
		t.Error("it went on behind what was given up")
	}
	f := caught(func() { down(1000) })
	check.Same(t, "the fault", f, fault{col: 7, e: api.ErrGram})
	check.Same(t, "the steps ahead of it", steps, 1000)
	check.Same(t, "no fault", caught(func() { steps = 0 }), fault{})
	check.Same(t, "the work that has no fault", steps, 0)
}

// A panic of another kind is a fault of the program's own, and is not hidden.
func TestNotCaught(t *testing.T) {
	for _, thrown := range []any{"a text", 5, api.ErrGram} {
		func() {
			defer func() { check.Same(t, "what goes on", recover(), thrown) }()
			caught(func() { panic(thrown) })
			t.Errorf("%v was hidden", thrown)
		}()
	}
}
