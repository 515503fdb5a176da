package bezout_test

import (
	"fmt"
	"testing"

	"trellis/api"
	"trellis/bezout"
	"trellis/check"
)

// What these answer is found by search among the language's own numbers, by the chapter's words.

func size(v int) int { return max(v, -v) }

// rest is v modulo m.
func rest(v, m int) int {
	return (v%size(m) + size(m)) % size(m)
}

func searchGcd(a, b int) int {
	for d := max(size(a), size(b)); d > 0; d-- {
		if a%d == 0 && b%d == 0 {
			return d
		}
	}
	return 0
}

func searchLcm(a, b int) int {
	for m := 1; m <= size(a*b); m++ {
		if m%a == 0 && m%b == 0 {
			return m
		}
	}
	return 0
}

func searchExt(a, b int) (g, x, y int) {
	g = searchGcd(a, b)
	switch {
	case g == 0:
		return 0, 0, 0
	case b == 0:
		return g, a / g, 0
	}
	for (g-a*x)%b != 0 {
		x++
	}
	return g, x, (g - a*x) / b
}

// searchLike is the least number from 0 on that is like each of rs modulo its modulus, or -1 if there is none below the modulus of all, and that modulus.
func searchLike(rs, ms []int) (r, m int) {
	m = 1
	for _, each := range ms {
		m = searchLcm(m, each)
	}
	for ; r < m; r++ {
		if isLike(r, rs, ms) {
			return r, m
		}
	}
	return -1, m
}

func isLike(v int, rs, ms []int) bool {
	for i := range rs {
		if (v-rs[i])%ms[i] != 0 {
			return false
		}
	}
	return true
}

// P6.1 and P6.2.
func TestPairsBySearch(t *testing.T) {
	for a := -36; a <= 36; a++ {
		for b := -36; b <= 36; b++ {
			g, x, y := searchExt(a, b)
			holdExt(t, num(a), num(b), num(g), num(x), num(y))
			check.Int(t, fmt.Sprintf("Gcd(%d, %d)", a, b), bezout.Gcd(num(a), num(b)), num(g))
			check.Int(t, fmt.Sprintf("Lcm(%d, %d)", a, b), bezout.Lcm(num(a), num(b)), num(searchLcm(a, b)))
			check.Same(t, fmt.Sprintf("Ext(%d, %d): %d from 0 on below |b|/g", a, b, x), b == 0 || x >= 0 && x < size(b)/g, true)
		}
	}
}

// P6.1 and P6.3, by the rule as the chapter tells it, one number after the other.
func TestListsBySearch(t *testing.T) {
	for _, values := range smallLists() {
		g := 0
		var multipliers []int
		for _, n := range values {
			next, x, y := searchExt(g, n)
			for i := range multipliers {
				multipliers[i] *= x
			}
			g, multipliers = next, append(multipliers, y)
		}
		gotG, got := bezout.ExtAll(nums(values...))
		check.Int(t, fmt.Sprintf("ExtAll(%v), the divisor", values), gotG, num(g))
		check.Ints(t, fmt.Sprintf("ExtAll(%v)", values), got, nums(multipliers...))
		check.Int(t, fmt.Sprintf("GcdAll(%v)", values), bezout.GcdAll(nums(values...)), num(g))
	}
}

// smallLists are all lists of at most four out of some small numbers.
func smallLists() [][]int {
	all := [][]int{nil}
	for from := 0; len(all[from]) < 4; from++ {
		for _, v := range []int{0, 1, -1, 4, -6, 10, -15, 21} {
			all = append(all, append(all[from][:len(all[from]):len(all[from])], v))
		}
	}
	return all
}

// P6.4.
func TestInverseBySearch(t *testing.T) {
	for m := -30; m <= 30; m++ {
		for a := -40; a <= 40 && m != 0; a++ {
			want, e := 0, api.ErrNone
			for i := range size(m) {
				if rest(a*i-1, m) == 0 {
					want, e = i, api.OK
				}
			}
			got, gotE := bezout.Inverse(num(a), num(m))
			check.Int(t, fmt.Sprintf("Inverse(%d, %d)", a, m), got, num(want))
			check.Same(t, fmt.Sprintf("Inverse(%d, %d)", a, m), gotE, e)
		}
	}
}

// P6.4.
func TestPowModBySearch(t *testing.T) {
	for m := -20; m <= 20; m++ {
		for a := -25; a <= 25 && m != 0; a++ {
			power := rest(1, m)
			for e := range 20 {
				got, err := bezout.PowMod(num(a), num(e), num(m))
				check.Int(t, fmt.Sprintf("PowMod(%d, %d, %d)", a, e, m), got, num(power))
				check.Same(t, fmt.Sprintf("PowMod(%d, %d, %d)", a, e, m), err, api.OK)
				power = rest(power*a, m)
			}
		}
	}
}

// P6.5 for two, each remainder with each modulus.
func TestCrtBySearch(t *testing.T) {
	for m1 := -9; m1 <= 9; m1++ {
		for m2 := -9; m2 <= 9; m2++ {
			if m1 == 0 || m2 == 0 {
				continue
			}
			for r1 := -11; r1 <= 11; r1++ {
				for r2 := -11; r2 <= 11; r2++ {
					r, m, e := bezout.Crt(num(r1), num(m1), num(r2), num(m2))
					holdLike(t, "Crt", []int{r1, r2}, []int{m1, m2}, r, m, e)
				}
			}
		}
	}
}

// P6.5 for lists.
func TestCrtAllBySearch(t *testing.T) {
	moduli := [][]int{{4}, {-1, 6}, {6, 4}, {6, -10, 15}, {3, 4, 5}, {4, 6, 9}, {-8, 4, 2}, {5, 5, 5}, {12, 1, 18}, {2, 3, 4, 6}, {-4, 6, -10, 15}}
	for _, ms := range moduli {
		rs := make([]int, len(ms))
		for turn := range 6 * 6 * 6 * 6 {
			for i := range rs {
				rs[i] = turn%6 - 2
				turn /= 6
			}
			r, m, e := bezout.CrtAll(nums(rs...), nums(ms...))
			holdLike(t, "CrtAll", rs, ms, r, m, e)
		}
	}
}

func holdLike(t *testing.T, name string, rs, ms []int, r, m api.Int, e api.Errno) {
	t.Helper()
	call := fmt.Sprintf("%s of the remainders %v modulo %v", name, rs, ms)
	wantR, wantM := searchLike(rs, ms)
	check.Same(t, call+": there is one, just if the remainders go together two by two", wantR >= 0, goTogether(rs, ms))
	if wantR < 0 {
		holdRefusal(t, call, e, api.ErrNone, r, m)
		return
	}
	check.Int(t, call+", r", r, num(wantR))
	check.Int(t, call+", m", m, num(wantM))
	check.Same(t, call, e, api.OK)
}

// goTogether says if, of each two places, the remainders differ by a multiple of the moduli's greatest common divisor.
func goTogether(rs, ms []int) bool {
	for i := range rs {
		for j := range i {
			if (rs[i]-rs[j])%searchGcd(ms[i], ms[j]) != 0 {
				return false
			}
		}
	}
	return true
}
