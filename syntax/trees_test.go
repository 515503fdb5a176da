package syntax_test

import (
	"slices"
	"strings"
	"testing"

	"trellis/api"
	"trellis/syntax"
)

// number and name are lists of one node, do is the tree of a command with these parts.
func number(text string) []api.Node { return nodeOf(api.OpNumber, text) }

func name(text string) []api.Node { return nodeOf(api.OpName, text) }

func do(parts ...[]api.Node) []api.Node { return nodeOf(api.OpDo, "print", parts...) }

// partsOf are all trees of exprs with just so many nodes, whose names and numbers are the leaves.
func partsOf(count int, leaves ...[]api.Node) [][]api.Node {
	if count == 1 {
		return leaves
	}
	var all [][]api.Node
	for _, part := range partsOf(count-1, leaves...) {
		all = append(all, nodeOf(api.OpNeg, "", part), nodeOf(api.OpTurn, "", part), nodeOf(api.OpPow, "3", part), nodeOf(api.OpCall, "f", part))
	}
	for before := 1; before < count-1; before++ {
		for _, left := range partsOf(before, leaves...) {
			for _, right := range partsOf(count-1-before, leaves...) {
				all = append(all, nodeOf(api.OpAdd, "", left, right), nodeOf(api.OpSub, "", left, right), nodeOf(api.OpMul, "", left, right), nodeOf(api.OpCall, "f", left, right))
			}
		}
	}
	return all
}

// holdTreeBack holds Print of a tree against the plain reckoning, and Parse of the line against the tree; each pair of brackets that makes no call must be needed.
func holdTreeBack(t *testing.T, tree []api.Node) {
	t.Helper()
	line := plainPrint(tree)
	holdLine(t, tree, line, api.OK)
	holdReadAgain(t, line, tree)
	for i, sign := range line {
		if sign != '(' || strings.HasSuffix(line[:i], "f") {
			continue
		}
		end := closing(line, i)
		bare := line[:i] + line[i+1:end] + line[end+1:]
		if other, _, e := syntax.Parse(bare); e == api.OK && sameTree(other, tree) {
			t.Errorf("%q is printed, where %q is the same", line, bare)
		}
	}
}

// closing is the place of the bracket that closes the one at that place.
func closing(line string, at int) int {
	for end := at + 1; ; end++ {
		if inside := line[at : end+1]; strings.Count(inside, "(") == strings.Count(inside, ")") {
			return end
		}
	}
}

// P26.2 and P26.3 for every tree of few nodes: each pair of operators one within the other, on either side, and deeper ones.
func TestAllSmallTrees(t *testing.T) {
	for count := 1; count <= 6; count++ {
		for _, part := range partsOf(count, name("x")) {
			holdTreeBack(t, do(part))
			if count < 5 {
				holdTreeBack(t, nodeOf(api.OpLet, "let", part))
				holdTreeBack(t, do(part, name("y"), part))
			}
		}
	}
	leaves := [][]api.Node{name("let"), number("0"), nodeOf(api.OpMatrix, "[-1 2]"), nodeOf(api.OpMatrix, "[0:1]"), nodeOf(api.OpComplex, "{0 1, 2}"), nodeOf(api.OpComplex, "{}")}
	for count := 1; count <= 4; count++ {
		for _, part := range partsOf(count, leaves...) {
			holdTreeBack(t, do(part))
		}
	}
}

// P26.2: each operator with each other one as its part, by hand.
func TestPartsByHand(t *testing.T) {
	for _, c := range [][2]string{
		{"print (a+b)+(a+b)", "print a + b + (a + b)"}, {"print (a-b)+(a-b)", "print a - b + (a - b)"}, {"print (a*b)+(a*b)", "print a*b + a*b"},
		{"print (-a)+(-a)", "print -a + -a"}, {"print (a^2)+(a^2)", "print a^2 + a^2"}, {"print (a')+(a')", "print a' + a'"}, {"print f(a)+f(a)", "print f(a) + f(a)"},
		{"print (a+b)-(a+b)", "print a + b - (a + b)"}, {"print (a-b)-(a-b)", "print a - b - (a - b)"}, {"print (a*b)-(a*b)", "print a*b - a*b"},
		{"print (-a)-(-a)", "print -a - -a"}, {"print (a^2)-(a^2)", "print a^2 - a^2"}, {"print (a')-(a')", "print a' - a'"}, {"print f(a)-f(a)", "print f(a) - f(a)"},
		{"print (a+b)*(a+b)", "print (a + b)*(a + b)"}, {"print (a-b)*(a-b)", "print (a - b)*(a - b)"}, {"print (a*b)*(a*b)", "print a*b*(a*b)"},
		{"print (-a)*(-a)", "print -a*-a"}, {"print (a^2)*(a^2)", "print a^2*a^2"}, {"print (a')*(a')", "print a'*a'"}, {"print f(a)*f(a)", "print f(a)*f(a)"},
		{"print -(a+b)", "print -(a + b)"}, {"print -(a-b)", "print -(a - b)"}, {"print -(a*b)", "print -(a*b)"},
		{"print -(-a)", "print --a"}, {"print -(a^2)", "print -a^2"}, {"print -(a')", "print -a'"}, {"print -(f(a))", "print -f(a)"},
		{"print (a+b)^2", "print (a + b)^2"}, {"print (a-b)^2", "print (a - b)^2"}, {"print (a*b)^2", "print (a*b)^2"},
		{"print (-a)^2", "print (-a)^2"}, {"print (a^2)^2", "print (a^2)^2"}, {"print (a')^2", "print a'^2"}, {"print (f(a))^2", "print f(a)^2"},
		{"print (a+b)'", "print (a + b)'"}, {"print (a-b)'", "print (a - b)'"}, {"print (a*b)'", "print (a*b)'"},
		{"print (-a)'", "print (-a)'"}, {"print (a^2)'", "print (a^2)'"}, {"print (a')'", "print a''"}, {"print (f(a))'", "print f(a)'"},
		{"print f((a+b),(a-b),(a*b),(-a),(a^2),(a'),(f(a)))", "print f(a + b, a - b, a*b, -a, a^2, a', f(a))"},
		{"print (a+b),(a-b),(a*b),(-a),(a^2),(a'),(f(a))", "print a + b, a - b, a*b, -a, a^2, a', f(a)"},
		{"let x = (a + b)", "let x = a + b"}, {"let x = (-a)", "let x = -a"}, {"let x = ((a*b))", "let x = a*b"}, {"let x = (a^2)", "let x = a^2"},
		{"print (5)' + ([1])^02 - ({0})'", "print 5' + [1]^2 - {0}'"},
	} {
		holdPrinted(t, c[0], c[1])
	}
}

// allLists hands on every list of just so many of the nodes.
func allLists(nodes []api.Node, count int, tell func(list []api.Node)) {
	if count == 0 {
		tell(nil)
		return
	}
	allLists(nodes, count-1, func(list []api.Node) {
		for _, n := range nodes {
			tell(append(slices.Clone(list), n))
		}
	})
}

// nodesOf are nodes of each of these operators, with every list of at most two places from -1 on as its parts.
func nodesOf(places int, ops ...int) []api.Node {
	lists := [][]int{nil}
	for one := -1; one < places; one++ {
		lists = append(lists, []int{one})
		for other := -1; other < places; other++ {
			lists = append(lists, []int{one, other})
		}
	}
	texts := map[int]string{api.OpNumber: "7", api.OpName: "x", api.OpMatrix: "[1]", api.OpComplex: "{}", api.OpPow: "3", api.OpCall: "f", api.OpLet: "y", api.OpDo: "print"}
	var all []api.Node
	for _, op := range ops {
		for _, list := range lists {
			all = append(all, api.Node{Op: op, Text: texts[op], Kids: list})
		}
	}
	return all
}

// P26.2: which lists are trees. The trees of few nodes are put together out of their parts; every other list of as many nodes is refused.
func TestAllSmallLists(t *testing.T) {
	leaves := [][]api.Node{name("x"), number("7"), nodeOf(api.OpMatrix, "[1]"), nodeOf(api.OpComplex, "{}")}
	lines := map[string]bool{told(nodeOf(api.OpNothing, "")): true, told(do()): true}
	for count := 1; count <= 2; count++ {
		for _, part := range partsOf(count, leaves...) {
			lines[told(do(part))] = true
			lines[told(nodeOf(api.OpLet, "y", part))] = true
		}
	}
	for _, left := range leaves {
		for _, right := range leaves {
			lines[told(do(left, right))] = true
		}
	}
	hold := func(list []api.Node) {
		line, e := syntax.Print(list)
		if isLine := lines[told(list)]; isLine != (e == api.OK) || e != api.OK && (line != "" || e != api.ErrForm) {
			t.Errorf("Print of %s: %q, %d", told(list), line, e)
		}
	}
	everyOp := []int{-1, 0, 1, 2, 3, 4, 5, 6, 7, 8, 9, 10, 11, 12, 13, 14, 15, 1 << 62}
	allLists(nodesOf(1, everyOp...), 0, hold)
	allLists(nodesOf(2, everyOp...), 1, hold)
	allLists(nodesOf(2, everyOp...), 2, hold)
	allLists(nodesOf(2, api.OpName, api.OpNeg, api.OpAdd, api.OpCall, api.OpDo, api.OpLet), 3, hold)
}

// P26.2: lists of more nodes that are no tree.
func TestNoTree(t *testing.T) {
	x := name("x")[0]
	end := func(kids ...int) api.Node { return api.Node{Op: api.OpDo, Text: "print", Kids: kids} }
	op := func(op int, kids ...int) api.Node { return api.Node{Op: op, Kids: kids} }
	call := func(kids ...int) api.Node { return api.Node{Op: api.OpCall, Text: "f", Kids: kids} }
	let := func(kids ...int) api.Node { return api.Node{Op: api.OpLet, Text: "y", Kids: kids} }
	for _, list := range [][]api.Node{
		// Nothing at all; a last node that is none of a line, or another one that is; Nothing that is not alone.
		nil, {}, {x}, {x, op(api.OpNeg, 0)}, {x, end(0), end(0)}, {x, end(0), x, end(2)}, {end(), end()}, {x, end(0), op(api.OpNeg)}, {x, let(0), end(1)},
		{x, let(0), op(api.OpNeg, 1), end(2)}, {x, op(api.OpNothing)}, {x, op(api.OpNothing, 0)}, {op(api.OpNothing), end()}, {x, end(0), op(api.OpNothing, 1)},
		// A part that is the node itself, that stands behind it, or nowhere.
		{end(0)}, {x, end(1)}, {x, end(2)}, {x, end(-1)}, {x, end(-1 << 63)}, {x, end(1<<63 - 1)}, {x, x, end(-1, 0, 1)},
		// A node that is no part, or is one of two nodes, or twice of one; parts that fall, or are crossed.
		{x, x, end(0)}, {x, x, end(1)}, {x, x, x, op(api.OpAdd, 0, 2), end(3)}, {x, op(api.OpNeg, 0), end(0)}, {x, op(api.OpNeg, 0), end(0, 1)},
		{x, x, op(api.OpAdd, 0, 1), end(1, 2)}, {x, x, op(api.OpAdd, 0, 1), end(0, 2)}, {x, x, x, op(api.OpAdd, 1, 2), call(0, 3), op(api.OpMul, 3, 4), end(5)},
		{x, x, end(1, 0)}, {x, x, end(0, 0)}, {x, x, end(1, 1)}, {x, x, end(0, 1, 1)}, {x, end(slices.Repeat([]int{0}, 70)...)},
		{x, x, x, op(api.OpAdd, 0, 1), call(2, 3), end(4)}, {x, x, op(api.OpAdd, 0, 1), x, op(api.OpAdd, 1, 3), end(2, 4)},
		// Too few parts, or too many.
		{x, x, op(api.OpAdd, 1), end(0, 2)}, {x, x, x, op(api.OpAdd, 0, 1, 2), end(3)}, {x, x, op(api.OpNeg, 0, 1), end(2)}, {x, op(api.OpNeg), end(0, 1)},
		{x, call(), end(0, 1)}, {x, {Op: api.OpName, Text: "x", Kids: []int{0}}, end(1)}, {x, {Op: api.OpNumber, Text: "7", Kids: []int{0}}, end(1)}, {let()}, {x, x, let(0, 1)},
		// An operator that is none.
		{x, op(15, 0), end(1)}, {op(0), end(0)}, {x, op(-4, 0), end(1)}, {x, op(99, 0)},
	} {
		holdLine(t, list, "", api.ErrForm)
	}
}

// holdText asks of a node with this operator and this Text, with as many parts as it must have, if it may stand in a tree.
func holdText(t *testing.T, op int, text string, may bool) {
	t.Helper()
	var list []api.Node
	switch op {
	case api.OpLet:
		list = nodeOf(op, text, name("x"))
	case api.OpDo, api.OpNothing:
		list = nodeOf(op, text)
	case api.OpAdd, api.OpSub, api.OpMul:
		list = do(nodeOf(op, text, name("x"), name("x")))
	case api.OpNeg, api.OpTurn, api.OpPow, api.OpCall:
		list = do(nodeOf(op, text, name("x")))
	default:
		list = do(nodeOf(op, text))
	}
	if !may {
		holdLine(t, list, "", api.ErrForm)
		return
	}
	line := plainPrint(list)
	holdLine(t, list, line, api.OK)
	holdReadAgain(t, line, list)
}

// P26.2: the Texts of numbers and exponents.
func TestTextsOfNumbers(t *testing.T) {
	for _, op := range []int{api.OpNumber, api.OpPow} {
		for _, text := range []string{"0", "1", "9", "10", "100", "18446744073709551616", strings.Repeat("9", 5000)} {
			holdText(t, op, text, true)
		}
		for _, text := range []string{"", "00", "01", "007", "-1", "+1", "-0", "1_0", "1 ", " 1", "1#", "a", "1a", "a1", "1.0", "1e3", "0x1", "\u0661", "\uff11", "1\n", "\xff", "1\x00", "(1)", "[1]", "1,1"} {
			holdText(t, op, text, false)
		}
	}
}

// P26.2: the Texts of names, functions and commands.
func TestTextsOfNames(t *testing.T) {
	for _, op := range []int{api.OpName, api.OpCall, api.OpLet, api.OpDo} {
		for _, text := range []string{"a", "_", "A1", "é", "λ_2", "print", "letx", "Let", strings.Repeat("a", 32), strings.Repeat("é", 16)} {
			holdText(t, op, text, true)
		}
		for _, text := range []string{"", " ", "a ", " a", "a#", "a # b", "#", "a b", "a+", "1", "1a", "a1?", "(a)", "'", "\u2212", "\xff", "a\xc3", "a\n", "a\r", "a\u00a0", "a\x00", "Ω\u0301", strings.Repeat("a", 33), strings.Repeat("é", 16) + "a"} {
			holdText(t, op, text, false)
		}
		holdText(t, op, "let", op != api.OpDo)
	}
}

// P26.2: the Texts of matrices are those that MatText answers, and no others that write the same.
func TestTextsOfMatrices(t *testing.T) {
	wide := "[" + strings.Repeat("0 ", 63) + "0]"
	tall := "[" + strings.Repeat("0; ", 63) + "0]"
	for _, text := range []string{"[0]", "[-1]", "[1 2; 3 4]", "[0:0]", "[0:64]", "[64:0]", "[3:0]", "[10 -18446744073709551616]", wide, tall} {
		holdText(t, api.OpMatrix, text, true)
	}
	for _, text := range []string{
		"", "[", "]", "[]", "[ ]", "1", "[1", "1]", "[01]", "[1_0]", "[-0]", "[- 1]", "[+1]", "[\u22121]", "[1  2]", "[1\t2]", "[1\u00a02]", "[ 1]", "[1 ]", " [1]", "[1] ", "[1]#", "[1;2]", "[1 ; 2]", "[1;  2]", "[1; 2;]",
		"[1 2; 3]", "[1:1]", "[2:3]", "[00:0]", "[0: 0]", "[0 :0]", "[ 0:0]", "[0:0] ", "[-0:0]", "[0:65]", "[65:0]", "[0:1_0]", "[0:0:0]", "[1:0]x", "[1][1]", "[1]'", "-[1]", "([1])", "{1}", "[a]", "[1/2]", "[1\xff]", "[1\n]",
		"[" + strings.Repeat("0 ", 64) + "0]", "[" + strings.Repeat("0; ", 64) + "0]",
	} {
		holdText(t, api.OpMatrix, text, false)
	}
}

// P26.2: the Texts of complexes; their numbers may be of any size.
func TestTextsOfComplexes(t *testing.T) {
	for _, text := range []string{"{}", "{0}", "{2 1}", "{1 1}", "{0 1, 2}", "{0, 0}", "{9223372036854775808}", "{1, " + strings.Repeat("7", 300) + " 3}"} {
		holdText(t, api.OpComplex, text, true)
	}
	for _, text := range []string{
		"", "{", "}", "{ }", "{{}}", "0", "[0]", "{00}", "{01}", "{-1}", "{1_0}", "{0,1}", "{0 , 1}", "{0,  1}", "{0  1}", "{0\t1}", "{ 0}", "{0 }", " {0}", "{0} ", "{0}#", "{0;1}", "{0,}", "{,0}", "{0,,1}", "{a}", "{0}}", "{0}'", "({0})", "{}{}", "{0\xff}", "{0\n}",
	} {
		holdText(t, api.OpComplex, text, false)
	}
}

// P26.2: the Texts of all other operators are empty.
func TestTextsOfOthers(t *testing.T) {
	for _, op := range []int{api.OpNeg, api.OpTurn, api.OpAdd, api.OpSub, api.OpMul, api.OpNothing} {
		holdText(t, op, "", true)
		for _, text := range []string{" ", "+", "-", "'", "*", "0", "x", "#", "\x00", "\xff"} {
			holdText(t, op, text, false)
		}
	}
}
