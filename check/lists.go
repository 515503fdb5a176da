package check

import (
	"maps"
	"slices"
	"strings"
)

// Lists is the list of lists of numbers that a text writes: with commas between them, and blanks between the numbers of each. Nothing at all writes no list.
func Lists(text string) [][]int {
	if text == "" {
		return nil
	}
	var all [][]int
	for part := range strings.SplitSeq(text, ",") {
		one := []int{}
		for word := range strings.FieldsSeq(part) {
			one = append(one, number(word))
		}
		all = append(all, one)
	}
	return all
}

// SameLists holds the lists of numbers that a call answers against those that it must answer.
func SameLists(t Reporter, call string, got, want [][]int) {
	t.Helper()
	if !areSameLists(got, want) {
		t.Errorf("%s: %v, want %v", call, got, want)
	}
}

// ListsMemory holds calls on lists of numbers that answer such lists, by their names, against R4 as Memory does those on words: at each of the samples.
func ListsMemory(t Reporter, calls map[string]func(lists [][]int) [][]int, samples [][][]int) {
	t.Helper()
	for _, name := range slices.Sorted(maps.Keys(calls)) {
		for _, x := range samples {
			listsMemoryOf(t, name, calls[name], x)
		}
	}
}

func listsMemoryOf(t Reporter, name string, call func(lists [][]int) [][]int, x [][]int) {
	t.Helper()
	a := RoomyLists(x)
	first := call(a)
	second := call(a)
	want := copyOfLists(second)
	if !AreRoomyLists(a, x) {
		t.Errorf("%s of %v changed what was handed in", name, x)
	}
	if !areSameLists(first, want) {
		t.Errorf("%s of %v: two answers differ", name, x)
	}
	spoilInTurn(t, name, first)
	if !AreRoomyLists(a, x) {
		t.Errorf("%s of %v shares memory with what was handed in", name, x)
	}
	if !areSameLists(second, want) {
		t.Errorf("%s of %v: two answers share memory", name, x)
	}
	for _, list := range a[:cap(a)] {
		spoilNumbers(list)
	}
	clear(a[:cap(a)])
	if !areSameLists(second, want) {
		t.Errorf("%s of %v hangs on what was handed in", name, x)
	}
}

// spoilInTurn writes over the lists of an answer, spare room included, and asks if one of them changes another.
func spoilInTurn(t Reporter, name string, answer [][]int) {
	t.Helper()
	before := copyOfLists(answer)
	for i, list := range answer {
		spoilNumbers(list)
		if !areSameLists(answer[i+1:], before[i+1:]) {
			t.Errorf("%s: list %d of the answer shares memory with a later one", name, i)
		}
	}
	clear(answer[:cap(answer)])
}

// spoilNumbers writes over a list, spare room included.
func spoilNumbers(list []int) {
	list = list[:cap(list)]
	for i := range list {
		list[i] = ^list[i]
	}
}

// RoomyLists is a copy of the lists, all of them and their list with spare room behind them.
func RoomyLists(lists [][]int) [][]int {
	var all [][]int
	for _, list := range slices.Concat(lists, roomOfLists()) {
		all = append(all, slices.Concat(list, roomOfNumbers())[:len(list)])
	}
	return all[:len(lists)]
}

// AreRoomyLists says if lists are still the roomy copy of others.
func AreRoomyLists(lists, others [][]int) bool {
	whole := slices.Concat(others, roomOfLists())
	return len(lists) == len(others) && cap(lists) >= len(whole) && slices.EqualFunc(lists[:len(whole)], whole, func(list, other []int) bool {
		wanted := slices.Concat(other, roomOfNumbers())
		return len(list) == len(other) && cap(list) >= len(wanted) && slices.Equal(list[:len(wanted)], wanted)
	})
}

// roomOfLists and roomOfNumbers are what stands in the spare room of roomy lists.
func roomOfLists() [][]int { return [][]int{{3, 1}, {2}} }

func roomOfNumbers() []int { return []int{94, 95} }

// copyOfLists has memory of its own.
func copyOfLists(lists [][]int) [][]int {
	var all [][]int
	for _, list := range lists {
		all = append(all, slices.Clone(list))
	}
	return all
}

func areSameLists(a, b [][]int) bool {
	return slices.EqualFunc(a, b, slices.Equal[[]int])
}
