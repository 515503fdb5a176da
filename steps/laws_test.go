package steps_test

import (
	"fmt"
	"testing"

	"trellis/api"
	"trellis/check"
	"trellis/mat"
	"trellis/steps"
	"trellis/zint"
)

// multiplier is the matrix of one step, written entry by entry: what is multiplied by it from the left has had the step done on its rows.
func multiplier(n int, s api.Step) api.Mat {
	e, _ := mat.Unit(n)
	switch s.Kind {
	case api.Swap:
		e.At[s.I*n+s.I], e.At[s.J*n+s.J] = num(0), num(0)
		e.At[s.I*n+s.J], e.At[s.J*n+s.I] = num(1), num(1)
	case api.Negate:
		e.At[s.I*n+s.I] = num(-1)
	case api.Add:
		e.At[s.I*n+s.J] = zint.Least(s.K)
	}
	return e
}

// multipliers is the product of the steps' matrices, the last step's at the left.
func multipliers(n int, s list) api.Mat {
	all, _ := mat.Unit(n)
	for _, one := range s {
		all, _ = mat.Mul(multiplier(n, one), all)
	}
	return all
}

// someSteps are so many steps that are fit for n lines, in no order, others for each seed.
func someSteps(n, count int, seed uint64, numbers []api.Int) list {
	if n == 0 {
		return nil
	}
	var all list
	for place, word := range check.Mixed(count, seed) {
		word ^= uint64(place+1) * 0x9e3779b97f4a7c15
		i, j := int(word>>8%uint64(n)), int(word>>20%uint64(n))
		kind := int(word>>40%5) + 1
		switch {
		case kind >= api.Add && i != j:
			all = append(all, addBy(i, j, numbers[word>>32%uint64(len(numbers))]))
		case kind == api.Negate:
			all = append(all, api.Step{Kind: api.Negate, I: i, J: int(word), K: minus(word)})
		default:
			all = append(all, api.Step{Kind: api.Swap, I: i, J: j, K: plus(word, 0)})
		}
	}
	return all
}

// small and large are what lines are multiplied by.
func small() []api.Int { return nums(1, -1, 2, 0, -3) }

func large() []api.Int {
	return []api.Int{num(1), minus(0, 0), plus(1, 0), minus(top), plus(0, 1), minus(high, high, 0), num(-2)}
}

// lists are lists of steps for n lines, the empty one among them; few for many lines, where products take long.
func lists(n int) []list {
	all := []list{nil, {}}
	for seed := range 1 + uint64(3)/uint64(1+n/10) {
		all = append(all, someSteps(n, 1+3*int(seed), seed, large()), someSteps(n, 15, seed+9, small()))
	}
	return all
}

// P11.2, P11.3: steps are products by their matrices.
func TestProducts(t *testing.T) {
	for _, n := range []int{0, 1, 2, 3, 5, 64} {
		for k, s := range lists(n) {
			want := multipliers(n, s)
			call := fmt.Sprintf("Matrix(%d, %v)", n, s)
			u, e := steps.Matrix(n, s)
			check.Same(t, call, e, api.OK)
			check.Mat(t, call, u, want)
			for _, other := range []int{0, 1, 3, 64} {
				a := check.Filled(n, other, check.Integers()[k:])
				product, _ := mat.Mul(want, a)
				got, e := steps.Rows(a, s)
				check.Same(t, call+": Rows", e, api.OK)
				check.Mat(t, call+": Rows", got, product)
				b := check.Filled(other, n, check.Integers()[k:])
				turned, _ := mat.Turn(want)
				product, _ = mat.Mul(b, turned)
				got, e = steps.Cols(b, s)
				check.Same(t, call+": Cols", e, api.OK)
				check.Mat(t, call+": Cols", got, product)
			}
		}
	}
}

// P11.4: what takes the steps back makes the inverse matrix, and taken back itself it is the steps again.
func TestInverses(t *testing.T) {
	for _, n := range []int{0, 1, 2, 3, 5, 20} {
		unit, _ := mat.Unit(n)
		for _, s := range lists(n) {
			call := fmt.Sprintf("Inverse(%d, %v)", n, s)
			back, e := steps.Inverse(n, s)
			check.Same(t, call, e, api.OK)
			u := multipliers(n, s)
			w := multipliers(n, back)
			product, _ := mat.Mul(u, w)
			check.Mat(t, call+": U W", product, unit)
			product, _ = mat.Mul(w, u)
			check.Mat(t, call+": W U", product, unit)
			again, e := steps.Inverse(n, back)
			check.Same(t, call+", again", e, api.OK)
			holdSteps(t, call+", again", again, bare(s))
		}
	}
}

// determinant is the sum, over all ways to pick an entry in each row and each column, of the products with their signs.
func determinant(a api.Mat) api.Int {
	if a.Rows == 0 {
		return num(1)
	}
	sum := num(0)
	var rows, cols []int
	for i := 1; i < a.Rows; i++ {
		rows = append(rows, i)
	}
	for j := range a.Cols {
		cols = cols[:0]
		for k := range a.Cols {
			if k != j {
				cols = append(cols, k)
			}
		}
		rest, _ := mat.Pick(a, rows, cols)
		term := zint.Mul(a.At[j], determinant(rest))
		if j%2 == 1 {
			term = zint.Neg(term)
		}
		sum = zint.Add(sum, term)
	}
	return sum
}

// P11.5: the sign is the determinant.
func TestSigns(t *testing.T) {
	for n := range 6 {
		for _, s := range append(lists(n), someSteps(n, 30, 5, small()), someSteps(n, 31, 6, nums(0))) {
			for count := range s {
				sign, e := steps.Sign(n, s[:count])
				call := fmt.Sprintf("Sign(%d, %v)", n, s[:count])
				check.Same(t, call, e, api.OK)
				check.Int(t, call, num(sign), determinant(multipliers(n, s[:count])))
			}
		}
	}
}
