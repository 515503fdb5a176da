package syntax

import "trellis/api"

// fault is what is given up with: an error, and the column at which it is told.
type fault struct {
	col int
	e   api.Errno
}

// giveUp leaves all that is being done, however deep, up to the face that caught stands at.
func giveUp(col int, e api.Errno) {
	panic(fault{col: col, e: e})
}

// caught does the work, and answers the fault with which that gives up, if it does.
func caught(work func()) (f fault) {
	defer func() {
		switch thrown := recover().(type) {
		case nil:
		case fault:
			f = thrown
		default: // a fault of this program, not of what it was given: it is not hidden
			panic(thrown)
		}
	}()
	work()
	return fault{}
}
