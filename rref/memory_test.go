package rref_test

import (
	"fmt"
	"slices"
	"testing"

	"trellis/api"
	"trellis/check"
	"trellis/made"
	"trellis/rref"
)

// samples are matrices of all ranks and many shapes, in lowest terms and not, with such as have what is no fraction.
func samples() []api.QMat {
	long := plus(append(check.Mixed(3, 4), 0)...)
	dens := []api.Int{num(1), num(-2), plus(6, 0), num(3), long, num(-1)}
	all := []api.QMat{mx("1/2 2/4; 3/6 4/8"), mx("2 0; 0 -1/3"), mx("0/2 0/-3; 0 0"), mx("1/2 1/0; 3 4"), mx("0/0")}
	for i, a := range made.Samples() {
		q := overOne(a)
		// Those that are whole, and in lowest terms, might be handed back as they are.
		if i%3 > 0 {
			for j := range q.At {
				q.At[j].Den = dens[j*i%len(dens)]
			}
		}
		all = append(all, q)
	}
	return all
}

// R4: what is handed in stays as it is, spare room included, and an answer has memory of its own, its spare room too.
func TestMemory(t *testing.T) {
	calls := map[string]func(p, q api.QMat) []api.Frac{
		"Form": func(p, q api.QMat) []api.Frac {
			form, _, _ := rref.Form(p)
			return form.At
		},
		"Kernel": func(p, q api.QMat) []api.Frac {
			kernel, _ := rref.Kernel(p)
			return kernel.At
		},
		"Inverse": func(p, q api.QMat) []api.Frac {
			inverse, _ := rref.Inverse(p)
			return inverse.At
		},
		"Mul": func(p, q api.QMat) []api.Frac {
			product, _ := rref.Mul(p, q)
			return product.At
		},
		"Mul of one by itself": func(p, q api.QMat) []api.Frac {
			product, _ := rref.Mul(p, p)
			return product.At
		},
		"Mul by a unit matrix": func(p, q api.QMat) []api.Frac {
			product, _ := rref.Mul(p, unitOf(p.Cols))
			return product.At
		},
		"Solve": func(p, q api.QMat) []api.Frac {
			x, _ := rref.Solve(p, q.At[:min(p.Cols, len(q.At))])
			return x
		},
		"Solve of a row of its own": func(p, q api.QMat) []api.Frac {
			x, _ := rref.Solve(p, p.At[:min(p.Cols, len(p.At))])
			return x
		},
		"Solve with a unit matrix": func(p, q api.QMat) []api.Frac {
			x, _ := rref.Solve(unitOf(min(len(q.At), 8)), q.At[:min(len(q.At), 8)])
			return x
		},
	}
	for name, call := range takers() {
		calls[name+", all of it"] = func(p, q api.QMat) []api.Frac {
			got, _ := call(p)
			return got
		}
		calls[name+" of what is not sound"] = func(p, q api.QMat) []api.Frac {
			p.Rows++
			p.Cols++
			got, _ := call(p)
			return got
		}
	}
	check.QMatMemory(t, calls, samples())
}

// R4: b's own list stays as it is, where it has room for more.
func TestMemoryOfRoomyList(t *testing.T) {
	for _, q := range []api.QMat{mx("1 2; 3 4; 5 6"), mx("0x2"), mx("1/2 2"), mx("1/0 2")} {
		b := check.RoomyFracs(row("2/4 4"))
		want := check.RoomyFracs(row("2/4 4"))
		rref.Solve(q, b)
		check.Fracs(t, of("Solve: what was handed in and its room", q), b[:cap(want)], want[:cap(want)])
	}
}

// R4: From leaves a as it is, and answers a list of its own.
func TestMemoryOfFrom(t *testing.T) {
	calls := map[string]func(a, b api.Mat) []api.Int{
		"From": func(a, b api.Mat) []api.Int {
			q, _ := rref.From(a)
			var all []api.Int
			for _, f := range q.At {
				all = append(all, f.Num, f.Den)
			}
			return all
		},
	}
	check.MatMemory(t, calls, made.Samples())
	for _, a := range made.Samples() {
		one, _ := rref.From(a)
		other, _ := rref.From(a)
		want := inLowestTerms(one)
		check.SpoilFracs(one.At)
		check.QMat(t, fmt.Sprint("another From of ", a), other, want)
	}
}

// R4: the two lists of Clear have memory of their own, and share none with each other.
func TestMemoryOfClear(t *testing.T) {
	for _, q := range samples() {
		a, by, _ := rref.Clear(q)
		other, otherBy, _ := rref.Clear(q)
		want, wantBy := check.Roomy(a.At), check.Roomy(by)
		check.Spoil(a.At)
		check.Ints(t, of("numbers of Clear, the matrix being written over", q), by, wantBy)
		check.Spoil(by)
		check.Ints(t, of("Clear, another time", q), other.At, want)
		check.Ints(t, of("numbers of Clear, another time", q), otherBy, wantBy)
		check.Spoil(otherBy)
		check.Ints(t, of("Clear, the numbers being written over", q), other.At, want)
	}
}

// R4: the list of columns has memory of its own.
func TestMemoryOfColumns(t *testing.T) {
	for _, q := range samples() {
		_, one, _ := rref.Form(q)
		_, other, _ := rref.Form(q)
		want := slices.Clone(one)
		one = one[:cap(one)]
		for i := range one {
			one[i] = -7
		}
		holdPlaces(t, of("columns of Form, another time", q), other, want)
	}
}

// R4: fractions that have the same words.
func TestOverlap(t *testing.T) {
	words := []uint64{1, 0, 2, 3, 0}
	one, two := plus(words[:2]...), plus(words[2:3]...)
	half, third := api.Frac{Num: one, Den: two}, api.Frac{Num: plus(words[:1]...), Den: minus(words[3:]...)}
	q := api.QMat{Rows: 2, Cols: 2, At: []api.Frac{half, third, third, half}}
	holdForm(t, q, mx("1 0; 0 1"), first(2))
	holdInverse(t, q, mx("18/5 12/5; 12/5 18/5"))
	holdSolve(t, q, q.At[:2], row("1 0"))
	holdSolve(t, q, q.At[1:3], row("-2 -2"))
	holdKernel(t, api.QMat{Rows: 2, Cols: 1, At: q.At[:2]}, mx("1 3/2"))
	holdMul(t, q, q, mx("13/36 -1/3; -1/3 13/36"))
	holdClear(t, q, whole("3 -2; -2 3"), nums(6, 6))
	check.Words(t, "what was handed in", words, []uint64{1, 0, 2, 3, 0})
}
