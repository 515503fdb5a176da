package check_test

import (
	"slices"
	"testing"

	"trellis/check"
)

func TestLists(t *testing.T) {
	for _, c := range []struct {
		text string
		want [][]int
	}{
		{"", nil}, {" ", [][]int{{}}}, {"0", [][]int{{0}}}, {"2 0, 1", [][]int{{2, 0}, {1}}}, {"-3, ,5 5", [][]int{{-3}, {}, {5, 5}}},
	} {
		check.SameLists(t, c.text, check.Lists(c.text), c.want)
	}
}

func TestHoldingListsAgainst(t *testing.T) {
	for _, c := range []struct {
		name      string
		got, want [][]int
		faulty    bool
	}{
		{"equal lists", check.Lists("1 2, 3"), check.Lists("1 2, 3"), false},
		{"no list and a list without lists", nil, [][]int{}, false},
		{"no list and a list without numbers in it", [][]int{nil}, [][]int{{}}, false},
		{"another number", check.Lists("1 2, 3"), check.Lists("1 2, 4"), true},
		{"another order", check.Lists("1 2, 3"), check.Lists("2 1, 3"), true},
		{"a list more", check.Lists("1 2, 3"), check.Lists("1 2"), true},
		{"lists in one", check.Lists("1 2, 3"), check.Lists("1 2 3"), true},
		{"an empty list more", check.Lists("1,"), check.Lists("1"), true},
	} {
		var r counter
		check.SameLists(&r, c.name, c.got, c.want)
		if (r.faults > 0) != c.faulty {
			t.Errorf("%s: %d faults told", c.name, r.faults)
		}
	}
}

func TestListsMemory(t *testing.T) {
	kept := check.Lists("1, 2 3")
	counted := 0
	copied := func(lists [][]int) [][]int {
		var all [][]int
		for _, list := range lists {
			all = append(all, append([]int{}, list...))
		}
		return all
	}
	for _, c := range []struct {
		name   string
		call   func(lists [][]int) [][]int
		faulty bool
	}{
		{"a copy", copied, false},
		{"nothing", func(lists [][]int) [][]int { return nil }, false},
		{"a copy with spare room", func(lists [][]int) [][]int { return append(copied(lists), make([]int, 2, 9)) }, false},
		{"what was handed in", func(lists [][]int) [][]int { return lists }, true},
		{"the lists that were handed in", func(lists [][]int) [][]int { return slices.Clone(lists) }, true},
		{"spare room of what was handed in", func(lists [][]int) [][]int { return lists[len(lists):] }, true},
		{"spare room of a list that was handed in", func(lists [][]int) [][]int { return [][]int{lists[0][len(lists[0]):]} }, true},
		{"a changed number", func(lists [][]int) [][]int { lists[0][0]++; return nil }, true},
		{"lists in another order", func(lists [][]int) [][]int { slices.SortFunc(lists, slices.Compare); return nil }, true},
		{"numbers in another order", func(lists [][]int) [][]int { slices.Sort(lists[0]); return nil }, true},
		{"a longer list", func(lists [][]int) [][]int { lists[1] = lists[1][:2]; return nil }, true},
		{"changed spare room", func(lists [][]int) [][]int { _ = append(lists, nil); return nil }, true},
		{"changed spare room of a list", func(lists [][]int) [][]int { _ = append(lists[1], 7); return nil }, true},
		{"one answer for two calls", func(lists [][]int) [][]int { return kept }, true},
		{"another answer each time", func(lists [][]int) [][]int { counted++; return [][]int{{counted}} }, true},
		{"one list twice", func(lists [][]int) [][]int { one := []int{1}; return [][]int{one, one} }, true},
		{"pieces of one list, their ends not fixed", func(lists [][]int) [][]int { all := []int{1, 2, 3}; return [][]int{all[:1], all[1:2], all[2:]} }, true},
		{"pieces with their ends fixed", func(lists [][]int) [][]int { all := []int{1, 2, 3}; return [][]int{all[:1:1], all[1:2:2], all[2:]} }, false},
	} {
		var r counter
		check.ListsMemory(&r, map[string]func(lists [][]int) [][]int{c.name: c.call}, [][][]int{check.Lists("9 2 5, 4, 0 1")})
		if (r.faults > 0) != c.faulty {
			t.Errorf("%s: %d faults told", c.name, r.faults)
		}
	}
}

func TestRoomyLists(t *testing.T) {
	x := check.Lists("9 2 5, , 4")
	for _, c := range []struct {
		name string
		do   func(lists [][]int) [][]int
		want bool
	}{
		{"nothing", func(lists [][]int) [][]int { return lists }, true},
		{"another number", func(lists [][]int) [][]int { lists[2][0] = 5; return lists }, false},
		{"without room", func(lists [][]int) [][]int { return slices.Clip(lists) }, false},
		{"a list without room", func(lists [][]int) [][]int { lists[0] = slices.Clip(lists[0]); return lists }, false},
		{"a shorter list", func(lists [][]int) [][]int { lists[0] = lists[0][:2]; return lists }, false},
		{"a list less", func(lists [][]int) [][]int { return lists[:2] }, false},
	} {
		check.Same(t, c.name, check.AreRoomyLists(c.do(check.RoomyLists(x)), x), c.want)
	}
	check.SameLists(t, "RoomyLists", check.RoomyLists(x), x)
}
