package syntax_test

import (
	"fmt"
	"slices"
	"strings"
	"testing"

	"trellis/api"
	"trellis/check"
	"trellis/made"
	"trellis/syntax"
)

// lines are lines with nodes of every kind, and faulty ones.
func lines() []string {
	return []string{"", "names", "print -A'^2", "let x = f(1, [1 -2; 3 04], {2 01}, a + b - c*d)", "p a, b, c, f(a, b, c)'", "p f(f(f(a, a), a), a)", "p [2:2], {}", "let", "p [1 2; 3]", "\xff"}
}

// roomyTree is a copy of a list of nodes, all their lists and itself with spare room behind them.
func roomyTree(list []api.Node) []api.Node {
	var all []api.Node
	for _, n := range slices.Concat(list, roomOfNodes()) {
		all = append(all, api.Node{Op: n.Op, Text: n.Text, Kids: slices.Concat(n.Kids, []int{71, 72})[:len(n.Kids)]})
	}
	return all[:len(list)]
}

func roomOfNodes() []api.Node {
	return []api.Node{{Op: api.OpName, Text: "room"}, {Op: api.OpAdd, Kids: []int{8, 9}}}
}

// isRoomyTree says if a list is still the roomy copy of another.
func isRoomyTree(list, other []api.Node) bool {
	whole := roomyTree(slices.Concat(other, roomOfNodes()))
	return len(list) == len(other) && slices.EqualFunc(list[:len(whole)], whole, func(n, m api.Node) bool {
		return n.Op == m.Op && n.Text == m.Text && len(n.Kids) == len(m.Kids) && slices.Equal(n.Kids[:len(m.Kids)+2], m.Kids[:len(m.Kids)+2])
	})
}

// R4: what Parse answers shares no memory, spare room included, with another answer, and no two of its lists share any.
func TestMemoryOfParse(t *testing.T) {
	for _, line := range lines() {
		first, _, _ := syntax.Parse(line)
		second, _, _ := syntax.Parse(line)
		want := roomyTree(second)
		if !sameTree(first, want) {
			t.Errorf("Parse(%q): %s, and then %s", line, told(first), told(second))
		}
		for i, n := range first {
			kids := n.Kids[:cap(n.Kids)]
			for j := range kids {
				kids[j] = -9
			}
			if !sameTree(first[i+1:], want[i+1:]) {
				t.Errorf("Parse(%q): node %d shares memory with a later one", line, i)
			}
		}
		clear(first[:cap(first)])
		if !sameTree(second, want) {
			t.Errorf("Parse(%q): two answers share memory", line)
		}
	}
}

// R4 and R5: Print leaves what it is handed as it was, spare room included, and answers the same again, also of trees in other memory.
func TestMemoryOfPrint(t *testing.T) {
	trees := [][]api.Node{nil, name("a"), make([]api.Node, 4097), do(nested(101, func(part []api.Node) []api.Node { return nodeOf(api.OpCall, "f", part) }))}
	for _, line := range lines() {
		tree, _, _ := syntax.Parse(line)
		trees = append(trees, tree)
	}
	for _, tree := range trees {
		roomy := roomyTree(tree)
		want, wantE := syntax.Print(tree)
		holdLine(t, roomy, want, wantE)
		holdLine(t, roomy, want, wantE)
		if !isRoomyTree(roomy, tree) {
			t.Errorf("Print of %.200s changed what it was handed", told(tree))
		}
	}
}

// P26.4, P26.5 and P13: the matrix comes back from its text; R4 for both ways.
func TestMatricesThereAndBack(t *testing.T) {
	back := func(a, _ api.Mat) []api.Int {
		text, e := syntax.MatText(a)
		check.Same(t, fmt.Sprintf("MatText of %v: the error", a), e, api.OK)
		read, e := syntax.ReadMat(text)
		check.Same(t, fmt.Sprintf("ReadMat(%.80q)'s error", text), e, api.OK)
		check.Mat(t, fmt.Sprintf("ReadMat(%.80q)", text), read, leastOf(a))
		holdTree(t, "p "+text, "matrix "+text+" | do p @0")
		var sizes [][]uint64
		for _, n := range read.At {
			sizes = append(sizes, n.Mag)
		}
		check.Apart(t, fmt.Sprintf("ReadMat(%.80q)", text), sizes...)
		return read.At
	}
	odd := api.Mat{Rows: 2, Cols: 2, At: []api.Int{check.Minus(0, 0), check.Plus(5, 0), check.Minus(check.Top, check.Top, 0), check.Minus()}}
	check.MatMemory(t, map[string]func(a, b api.Mat) []api.Int{"ReadMat of MatText": back}, []api.Mat{odd, {}, {Rows: 3}, {Cols: 64}, check.Matrix("1 -2; 3 4"), check.Matrix("0")})
	s := made.Source{Words: 3, Seed: 7}
	for _, shape := range [][2]int{{0, 0}, {64, 0}, {0, 64}, {1, 64}, {64, 1}, {5, 7}, {64, 64}} {
		back(s.Whole(shape[0], shape[1]), api.Mat{})
	}
}

// leastOf is a matrix with its entries in least form.
func leastOf(a api.Mat) api.Mat {
	least := api.Mat{Rows: a.Rows, Cols: a.Cols}
	for _, n := range a.At {
		size := n.Mag
		for len(size) > 0 && size[len(size)-1] == 0 {
			size = size[:len(size)-1]
		}
		least.At = append(least.At, api.Int{Neg: n.Neg && len(size) > 0, Mag: size})
	}
	return least
}

// R4 for QMatText.
func TestMemoryOfQMatText(t *testing.T) {
	text := func(q, _ api.QMat) []api.Frac {
		first, e := syntax.QMatText(q)
		second, again := syntax.QMatText(q)
		if first != second || e != again {
			t.Errorf("QMatText of %v: %q, %d, and then %q, %d", q, first, e, second, again)
		}
		return nil
	}
	check.QMatMemory(t, map[string]func(p, q api.QMat) []api.Frac{"QMatText": text}, []api.QMat{{}, check.FracMatrix("1/2 -3; 0 6"), {Rows: 1, Cols: 1, At: []api.Frac{{Num: check.Num(4), Den: check.Minus(6, 0)}}}, {Rows: 1, Cols: 1, At: []api.Frac{{}}}})
}

// P26.6 and P13: the complex comes back from its text; R4 for both ways.
func TestComplexesThereAndBack(t *testing.T) {
	back := func(facets [][]int) [][]int {
		text, e := syntax.ComplexText(facets)
		check.Same(t, fmt.Sprintf("ComplexText of %v: the error", facets), e, api.OK)
		read, e := syntax.ReadComplex(text)
		check.Same(t, fmt.Sprintf("ReadComplex(%q)'s error", text), e, api.OK)
		check.SameLists(t, fmt.Sprintf("ReadComplex(%q)", text), read, facets)
		holdTree(t, "p "+text, "complex "+text+" | do p @0")
		return read
	}
	samples := [][][]int{nil, check.Lists("0"), check.Lists("0 1 2,2 3,3 3"), check.Lists("9223372036854775807,5 5 5 5 5 5 5 5 5 5,0")}
	check.ListsMemory(t, map[string]func(facets [][]int) [][]int{"ReadComplex of ComplexText": back}, samples)
	refused := func(facets [][]int) [][]int {
		_, e := syntax.ComplexText(facets)
		check.Same(t, fmt.Sprintf("ComplexText of %v: the error", facets), e, api.ErrArg)
		return nil
	}
	check.ListsMemory(t, map[string]func(facets [][]int) [][]int{"ComplexText": refused}, [][][]int{{{}}, {{0}, {-1, 2}}})
}

// R5: the same texts are answered the same again, whatever was asked between.
func TestTwice(t *testing.T) {
	answers := func() string {
		var all []string
		for _, line := range lines() {
			all = append(all, fmt.Sprint(syntax.Parse(line)))
			all = append(all, fmt.Sprint(syntax.ReadMat(line)))
			all = append(all, fmt.Sprint(syntax.ReadComplex(line)))
		}
		for _, s := range []string{"[1 -2]", "[1 2; 3]", "[65:0]", "{0 1}", "{-1}"} {
			all = append(all, fmt.Sprint(syntax.ReadMat(s)), fmt.Sprint(syntax.ReadComplex(s)))
		}
		return strings.Join(all, "\n")
	}
	if first, second := answers(), answers(); first != second {
		t.Errorf("%s\nand then\n%s", first, second)
	}
}
