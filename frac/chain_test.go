package frac_test

import (
	"fmt"
	"slices"
	"testing"

	"trellis/api"
	"trellis/check"
	"trellis/frac"
	"trellis/zint"
)

// P8.7.
func TestChain(t *testing.T) {
	for _, c := range []struct {
		a    api.Frac
		want []api.Int
	}{
		{over(43, 19), nums(2, 3, 1, 4)},
		{over(-43, -19), nums(2, 3, 1, 4)},
		{over(86, 38), nums(2, 3, 1, 4)},
		{over(-43, 19), nums(-3, 1, 2, 1, 4)},
		{over(43, -19), nums(-3, 1, 2, 1, 4)},
		{over(19, 43), nums(0, 2, 3, 1, 4)},
		{over(-7, 2), nums(-4, 2)},
		{over(7, 2), nums(3, 2)},
		{over(3, 1), nums(3)},
		{over(-9, 1), nums(-9)},
		{over(9, -3), nums(-3)},
		{over(0, 5), nums(0)},
		{over(0, -5), nums(0)},
		{over(1, 1), nums(1)},
		{over(-1, 1), nums(-1)},
		{over(1, 2), nums(0, 2)},
		{over(-1, 2), nums(-1, 2)},
		{over(-1, 3), nums(-1, 1, 2)},
		{over(1, -1000), nums(-1, 1, 999)},
		{over(13, 8), nums(1, 1, 1, 1, 2)},
		{over(355, 113), nums(3, 7, 16)},
		{of(minus(0), minus(5, 0)), nums(0)},
		{of(plus(7, 0), minus(2, 0, 0)), nums(-4, 2)},
		{of(plus(1, 1), plus(0, 1)), []api.Int{num(1), plus(0, 1)}},
		{of(num(-1), plus(0, 1)), []api.Int{num(-1), num(1), plus(top)}},
		{of(plus(5, 0, 1), plus(0, 1, 0)), []api.Int{plus(0, 1), plus(3689348814741910323), num(5)}},
	} {
		got, e := frac.Chain(c.a)
		check.Ints(t, fmt.Sprintf("Chain(%v)", c.a), got, c.want)
		check.Same(t, fmt.Sprintf("Chain(%v)", c.a), e, api.OK)
	}
}

// P8.8.
func TestUnchain(t *testing.T) {
	for _, c := range []struct {
		list []api.Int
		want api.Frac
	}{
		{nums(2, 3, 1, 4), over(43, 19)},
		{nums(2, 3, 1, 3, 1), over(43, 19)},
		{nums(0, 1), over(1, 1)},
		{nums(-1, 1), over(0, 1)},
		{nums(-4, 2), over(-7, 2)},
		{nums(-4, 1, 1), over(-7, 2)},
		{nums(-9), over(-9, 1)},
		{nums(0), over(0, 1)},
		{nums(1), over(1, 1)},
		{nums(5), over(5, 1)},
		{nums(0, 5), over(1, 5)},
		{nums(1, 1, 1, 1, 1), over(8, 5)},
		{[]api.Int{minus(0)}, over(0, 1)},
		{[]api.Int{minus(9, 0, 0)}, over(-9, 1)},
		{[]api.Int{plus(9, 0)}, over(9, 1)},
		{[]api.Int{minus(4, 0), plus(2, 0, 0)}, over(-7, 2)},
		{[]api.Int{minus(0, 0), plus(0, 1, 0)}, of(num(1), plus(0, 1))},
		{[]api.Int{num(-1), num(1), plus(top)}, of(num(-1), plus(0, 1))},
	} {
		got, e := frac.Unchain(c.list)
		hold(t, fmt.Sprintf("Unchain(%v)", c.list), got, e, c.want)
	}
}

// P8.8: lists that stand for nothing, the fault at each place from the second on.
func TestUnchainWrongList(t *testing.T) {
	wrong := [][]api.Int{nil, nums(), nums(0, 0), nums(5, 0), nums(5, -1), nums(1, 1, 0), nums(0, 1, -1, 1)}
	for place := 1; place < 8; place++ {
		for _, n := range append(check.Zeros(), num(-1), minus(5, 0), minus(0, 1)) {
			list := nums(3, 1, 2, 1, 7, 2, 1, 2)
			list[place] = n
			wrong = append(wrong, list, list[:place+1])
		}
	}
	for _, list := range wrong {
		got, e := frac.Unchain(list)
		holdRefusal(t, fmt.Sprintf("Unchain(%v)", list), got, e, api.ErrArg)
	}
}

// holdChain asks for the one list of a, which is low in lowest terms, by what it stands for; and for that again, of the other list that stands for it.
func holdChain(t *testing.T, a, low api.Frac) {
	t.Helper()
	list, e := frac.Chain(a)
	call := fmt.Sprintf("Chain(%v) = %v", a, list)
	check.Same(t, call, e, api.OK)
	if len(list) == 0 {
		t.Errorf("%s: it has no numbers", call)
		return
	}
	last := len(list) - 1
	for i, n := range list {
		check.Int(t, call+": least form", n, zint.Least(n))
		check.Same(t, fmt.Sprintf("%s: number %d is at least 1, or the first", call, i), i == 0 || zint.Sign(n) > 0, true)
	}
	check.Same(t, call+": the last is above 1, or alone", last == 0 || zint.Cmp(list[last], num(1)) > 0, true)
	back, e := frac.Unchain(list)
	hold(t, "Unchain of "+call, back, e, low)
	other := append(slices.Clone(list[:last]), zint.Sub(list[last], num(1)), num(1))
	back, e = frac.Unchain(other)
	hold(t, fmt.Sprintf("Unchain(%v)", other), back, e, low)
}

// valueOf is what a list stands for, by the chapter's words.
func valueOf(list []api.Int) api.Frac {
	value := of(list[len(list)-1], num(1))
	for i := len(list) - 2; i >= 0; i-- {
		value, _ = frac.Div(over(1, 1), value)
		value, _ = frac.Add(of(list[i], num(1)), value)
	}
	value, _ = frac.Of(value.Num, value.Den)
	return value
}

// P8.8 and P8.7: all lists of at most five out of some small numbers, and lists of long ones.
func TestChainsByValue(t *testing.T) {
	for first := -3; first <= 3; first++ {
		all := [][]int{{first}}
		for from := 0; len(all[from]) < 5; from++ {
			for _, n := range []int{1, 2, 3, 5} {
				all = append(all, append(slices.Clone(all[from]), n))
			}
		}
		for _, values := range all {
			holdUnchain(t, nums(values...))
		}
	}
	var long []api.Int
	for i := range 12 {
		long = append(long, plus(append(check.Mixed(i%4, uint64(i)), 1)...))
		holdUnchain(t, long)
		holdUnchain(t, append([]api.Int{zint.Neg(long[i])}, long...))
	}
}

func holdUnchain(t *testing.T, list []api.Int) {
	t.Helper()
	got, e := frac.Unchain(list)
	hold(t, fmt.Sprintf("Unchain(%v)", list), got, e, valueOf(list))
	last := len(list) - 1
	if last == 0 || zint.Cmp(list[last], num(1)) > 0 {
		back, e := frac.Chain(got)
		check.Ints(t, fmt.Sprintf("Chain of what Unchain(%v) answers", list), back, list)
		check.Same(t, fmt.Sprintf("Chain of what Unchain(%v) answers", list), e, api.OK)
	}
}

// P8.7 and P8.8 where each number but the last is 1, so that the list is as long as it can be.
func TestLongestChain(t *testing.T) {
	a, b := num(2), num(1)
	for range 2999 {
		a, b = zint.Add(a, b), a
	}
	ones := slices.Repeat(nums(1), 3000)
	list, e := frac.Chain(of(a, b))
	check.Ints(t, "Chain of two Fibonacci numbers", list, append(ones[:2999:2999], num(2)))
	check.Same(t, "Chain of two Fibonacci numbers", e, api.OK)
	got, e := frac.Unchain(append(ones, num(1)))
	hold(t, "Unchain of ones alone", got, e, of(a, b))
}
