package syntax_test

import (
	"fmt"
	"math"
	"strings"
	"testing"

	"trellis/api"
	"trellis/check"
	"trellis/radix"
	"trellis/syntax"
)

// P26.1: lines without tokens; "let" as a line's first token, and anywhere else.
func TestLinesOfEachKind(t *testing.T) {
	for _, line := range []string{"", " ", "\t\u00a0 ", "#", "#let x", " # é ( [1 2; 3]"} {
		holdTree(t, line, "nothing")
		holdPrinted(t, line, "")
	}
	holdTree(t, "let let = let", "name let | let let @0")
	holdTree(t, "let x = let(let, 1)", "name let | number 1 | call let @0 @1 | let x @2")
	holdTree(t, "print let, -let'", "name let | name let | turn @1 | neg @2 | do print @0 @3")
	holdTree(t, "lets", "do lets")
	holdTree(t, "Let x", "name x | do Let @0")
	holdFault(t, "let(x)", 4, api.ErrGram)
	holdFault(t, "let (x) = 5", 5, api.ErrGram)
	holdFault(t, "let x", 6, api.ErrGram)
	holdFault(t, "let x 5", 7, api.ErrGram)
	holdFault(t, "let x =", 8, api.ErrGram)
	holdFault(t, "let x = 5,", 10, api.ErrGram)
	holdFault(t, "let x = let y = 5", 13, api.ErrGram)
	holdFault(t, "print let x", 11, api.ErrGram)
	holdFault(t, "a = 5", 3, api.ErrGram)
	holdFault(t, "(let)", 1, api.ErrGram)
	holdFault(t, "= 5", 1, api.ErrGram)
}

// P26.1: a name with a bracket right behind it is a call, but not a command's.
func TestCalls(t *testing.T) {
	holdTree(t, "print f (a)", "name a | call f @0 | do print @1")
	holdTree(t, "print f\t\u00a0(a)'^2", "name a | call f @0 | turn @1 | pow 2 @2 | do print @3")
	holdTree(t, "print(f(a))", "name a | call f @0 | do print @1")
	holdTree(t, "f(a)", "name a | do f @0")
	holdTree(t, "f(a)*(b)", "name a | name b | mul @0 @1 | do f @2")
	holdTree(t, "f (a), (b)", "name a | name b | do f @0 @1")
	holdTree(t, "f f(a, (b), f(c))", "name a | name b | name c | call f @2 | call f @0 @1 @3 | do f @4")
	holdTree(t, "f (f)", "name f | do f @0")
	holdFault(t, "f(a, b)", 4, api.ErrGram)
	holdFault(t, "f()", 3, api.ErrGram)
	holdFault(t, "print f()", 9, api.ErrGram)
	holdFault(t, "print (f)(a)", 10, api.ErrGram)
	holdFault(t, "print f(a)(b)", 11, api.ErrGram)
	holdFault(t, "print f'(a)", 9, api.ErrGram)
	holdFault(t, "print 2(a)", 8, api.ErrGram)
	holdFault(t, "print f(a,)", 11, api.ErrGram)
	holdFault(t, "print f(,a)", 9, api.ErrGram)
	holdFault(t, "print f(a;b)", 10, api.ErrGram)
	holdFault(t, "print f[1]", 8, api.ErrGram)
}

// P26.1: what binds closer, and from which side; numbers are those of their tokens.
func TestOrderOfOperators(t *testing.T) {
	holdTree(t, "p a-b-c", "name a | name b | sub @0 @1 | name c | sub @2 @3 | do p @4")
	holdTree(t, "p a-(b-c)", "name a | name b | name c | sub @1 @2 | sub @0 @3 | do p @4")
	holdTree(t, "p a+b*c-d", "name a | name b | name c | mul @1 @2 | add @0 @3 | name d | sub @4 @5 | do p @6")
	holdTree(t, "p a*b*c", "name a | name b | mul @0 @1 | name c | mul @2 @3 | do p @4")
	holdTree(t, "p -a*b", "name a | neg @0 | name b | mul @1 @2 | do p @3")
	holdTree(t, "p a*-b", "name a | name b | neg @1 | mul @0 @2 | do p @3")
	holdTree(t, "p a--b", "name a | name b | neg @1 | sub @0 @2 | do p @3")
	holdTree(t, "p --a''", "name a | turn @0 | turn @1 | neg @2 | neg @3 | do p @4")
	holdTree(t, "p a \u2212 b \u00d7 c", "name a | name b | name c | mul @1 @2 | sub @0 @3 | do p @4")
	holdTree(t, "p a^0_02", "name a | pow 2 @0 | do p @1")
	holdTree(t, "p 0_0, 007, 1_000_0, a^00", "number 0 | number 7 | number 10000 | name a | pow 0 @3 | do p @0 @1 @2 @4")
	holdTree(t, "p 18_446_744_073_709_551_616", "number 18446744073709551616 | do p @0")
	holdFault(t, "p a^-2", 5, api.ErrGram)
	holdFault(t, "p a^(2)", 5, api.ErrGram)
	holdFault(t, "p a^b", 5, api.ErrGram)
	holdFault(t, "p a^2^3", 6, api.ErrGram)
	holdFault(t, "p a^2'", 6, api.ErrGram)
	holdFault(t, "p 'a", 3, api.ErrGram)
	holdFault(t, "p +a", 3, api.ErrGram)
	holdFault(t, "p a + + b", 7, api.ErrGram)
	holdFault(t, "p a**b", 5, api.ErrGram)
	holdFault(t, "p a b", 5, api.ErrGram)
	holdFault(t, "p a 1", 5, api.ErrGram)
	holdFault(t, "p 1 1", 5, api.ErrGram)
	holdFault(t, "p [1] [1]", 7, api.ErrGram)
}

// P26.1: matrices in a line; a sign stands ahead of a number, and of nothing else.
func TestMatricesOfLines(t *testing.T) {
	for _, c := range [][2]string{
		{"[3 - 1]", "[3 -1]"}, {"[3 -1]", "[3 -1]"}, {"[3-1]", "[3 -1]"}, {"[-\u00a03\u22121]", "[-3 -1]"}, {"[- 0]", "[0]"}, {"[-00_0 01]", "[0 1]"},
		{"[1 2;3 4]", "[1 2; 3 4]"}, {"[1;-2;3]", "[1; -2; 3]"}, {"[0:0]", "[0:0]"}, {"[00:64]", "[0:64]"}, {"[6_4:0]", "[64:0]"}, {"[2 : 03]", "[0 0 0; 0 0 0]"},
		{"[1:1]", "[0]"}, {"[-18446744073709551616 99]", "[-18446744073709551616 99]"},
	} {
		holdTree(t, "p "+c[0], "matrix "+c[1]+" | do p @0")
		holdTree(t, "let m = "+c[0]+"'", "matrix "+c[1]+" | turn @0 | let m @1")
		holdReadMat(t, c[0], c[1], api.OK)
	}
	for _, c := range []struct {
		line string
		col  int
	}{
		{"p []", 4}, {"p [-]", 5}, {"p [--1]", 5}, {"p [1 -]", 7}, {"p [+1]", 4}, {"p [a]", 4}, {"p [-a]", 5}, {"p [1,2]", 5}, {"p [1;]", 6}, {"p [;1]", 4}, {"p [1;;2]", 6},
		{"p [:]", 4}, {"p [1:]", 6}, {"p [:1]", 4}, {"p [1:-1]", 6}, {"p [1 2:3]", 7}, {"p [1:2 3]", 8}, {"p [1:2;3]", 7}, {"p [1:2:3]", 7}, {"p [1;2:3]", 7},
		{"p [(1)]", 4}, {"p [[1]]", 4}, {"p [{1}]", 4}, {"p [1^2]", 5}, {"p [1']", 5}, {"p [1+2]", 5}, {"p [1}", 5}, {"p 1]", 4}, {"p [let]", 4},
	} {
		holdFault(t, c.line, c.col, api.ErrGram)
	}
}

// P26.1: complexes in a line.
func TestComplexesOfLines(t *testing.T) {
	for _, c := range [][2]string{
		{"{}", "{}"}, {"{ }", "{}"}, {"{0}", "{0}"}, {"{2 1,0_1,1 1}", "{2 1, 1, 1 1}"}, {"{00 007 , 1}", "{0 7, 1}"}, {"{9223372036854775808}", "{9223372036854775808}"},
	} {
		holdTree(t, "p "+c[0], "complex "+c[1]+" | do p @0")
		holdTree(t, "p -"+c[0]+"^2", "complex "+c[1]+" | pow 2 @0 | neg @1 | do p @2")
	}
	for _, c := range []struct {
		line string
		col  int
	}{
		{"p {,}", 4}, {"p {1,}", 6}, {"p {,1}", 4}, {"p {1,,2}", 6}, {"p {-1}", 4}, {"p {1;2}", 5}, {"p {1:2}", 5}, {"p {a}", 4}, {"p {{1}}", 4}, {"p {(1)}", 4}, {"p {1]", 5}, {"p 1}", 4},
	} {
		holdFault(t, c.line, c.col, api.ErrGram)
	}
}

// P26.1: lines that end too early, wherever they do; the column is behind blanks and remarks too, in characters.
func TestEarlyEnds(t *testing.T) {
	for _, line := range []string{"let", "let a", "let a =", "p -", "p a +", "p a -", "p a *", "p a ^", "p (", "p (a", "p f(", "p f(a", "p f(a,", "p a,", "p [", "p [-", "p [1", "p [1:", "p [1:2", "p [1 2; 3", "p [1;", "p [65 1; 2", "p {", "p {1", "p {1,", "p {1, 2"} {
		holdFault(t, line, len(line)+1, api.ErrGram)
		holdFault(t, line+"  ", len(line)+3, api.ErrGram)
		holdFault(t, line+" # é]\u2028", len(line)+7, api.ErrGram)
		holdFault(t, "\u00a0"+line+"\t#", len(line)+4, api.ErrGram)
	}
	holdFault(t, "é λ + ", 7, api.ErrGram)
	holdFault(t, "p é \u2212 [", 8, api.ErrGram)
}

// P26.1: columns count characters, not bytes.
func TestColumns(t *testing.T) {
	holdFault(t, "é [", 4, api.ErrGram)
	holdFault(t, "é ) # é", 3, api.ErrGram)
	holdFault(t, "\u00a0é λ \u00d7 ]", 8, api.ErrGram)
	holdFault(t, "é λ, [1; 2 3]", 6, api.ErrFit)
	holdFault(t, "é λ \u2212 [65:0]", 7, api.ErrLarge)
	holdFault(t, "é "+strings.Repeat("(", 101), 103, api.ErrLarge)
	holdFault(t, "é ?", 3, api.ErrRune)
	holdFault(t, "é \u2212 \xff", 5, api.ErrUtf8)
}

// P26.1: what lexer.Tokens refuses comes ahead of all else.
func TestRefusedTokens(t *testing.T) {
	holdFault(t, ") \xff", 3, api.ErrUtf8)
	holdFault(t, "p [1; 2 3] # \xc3", 14, api.ErrUtf8)
	holdFault(t, "5 ?", 3, api.ErrRune)
	holdFault(t, "p a\n", 4, api.ErrRune)
	holdFault(t, "p [65:0] 1__0", 10, api.ErrText)
	holdFault(t, "= "+strings.Repeat("a", 33), 3, api.ErrLong)
	holdFault(t, "p "+strings.Repeat("-", 5000)+"1 $", 5005, api.ErrRune)
	holdFault(t, "p "+strings.Repeat("(", 101)+"\xff", 104, api.ErrUtf8)
}

// P26.1: so many brackets may be open, of brackets, of calls and of both; closed ones do not count.
func TestDepth(t *testing.T) {
	for _, opening := range []string{"(", "f(", "(f("} {
		deep := strings.Repeat(opening, 100/strings.Count(opening, "("))
		line := "p " + deep + "a" + strings.Repeat(")", 100)
		if _, col, e := syntax.Parse(line); col != 0 || e != api.OK {
			t.Errorf("100 brackets open, by %q: %d, %d", opening, col, e)
		}
		if _, col, e := syntax.Parse(line + " + (a)*" + line[2:]); col != 0 || e != api.OK {
			t.Errorf("100 brackets open twice, by %q: %d, %d", opening, col, e)
		}
		holdFault(t, "p "+deep+"(a"+strings.Repeat(")", 101), len(deep)+3, api.ErrLarge)
		holdFault(t, "p "+deep+" é (a"+strings.Repeat(")", 101), len(deep)+6, api.ErrLarge)
		holdFault(t, line+"*"+deep+"f(a))", len(line)+len(deep)+3, api.ErrLarge)
	}
	holdTree(t, "p "+strings.Repeat("(", 100)+"a"+strings.Repeat(")", 100), "name a | do p @0")
	holdFault(t, "p"+strings.Repeat("(", 1<<16), 102, api.ErrLarge)
}

// row is a row of so many numbers, rows are so many rows of them.
func row(cols int) string { return strings.TrimSpace(strings.Repeat("1 ", cols)) }

func rows(rows, cols int) string {
	return "[" + strings.Repeat(row(cols)+"; ", rows-1) + row(cols) + "]"
}

// P26.1 and P26.5: so many rows and columns a matrix may have.
func TestDimensions(t *testing.T) {
	for _, text := range []string{rows(64, 1), rows(1, 64), rows(64, 64), "[64:0]", "[0:64]"} {
		holdTree(t, "p "+text, "matrix "+text+" | do p @0")
		holdReadMat(t, text, text, api.OK)
	}
	for _, text := range []string{
		rows(65, 1), rows(1, 65), rows(65, 65), "[65:0]", "[0:65]", "[65:64]", "[64:65]", "[0_6_5:1]", "[0:18446744073709551616]", "[18446744073709551616:0]", "[0:9223372036854775808]", "[9223372036854775807:9223372036854775807]", "[0:18446744073709551679]", "[4294967296:4294967296]",
	} {
		holdFault(t, "p "+text, 3, api.ErrLarge)
		holdFault(t, "print 1 + "+text+" x", 11, api.ErrLarge)
		holdReadMat(t, text, noMatrix, api.ErrLarge)
	}
	for _, text := range []string{"[1 2; 3]", "[1; 2 3]", "[1 2; 3 4; 5 6 7]", "[1 2; -3]", "[" + row(65) + "; 1]"} {
		holdFault(t, "p "+text, 3, api.ErrFit)
		holdReadMat(t, text, noMatrix, api.ErrFit)
	}
	for _, row := range []string{"1", "1 1 1", row(65)} {
		holdFault(t, "p "+strings.TrimSuffix(rows(65, 2), "]")+"; "+row+"]", 3, api.ErrFit)
		holdFault(t, "p ["+row+"; "+strings.TrimPrefix(rows(65, 2), "["), 3, api.ErrFit)
	}
}

// P26.1: of several faults the first from the left is told; of a matrix they are found at its end.
func TestFirstFault(t *testing.T) {
	hundred := strings.Repeat("(", 100)
	holdFault(t, "p [1 2; 3] [65:0] )", 3, api.ErrFit)
	holdFault(t, "p [65:0] [1 2; 3] )", 3, api.ErrLarge)
	holdFault(t, "p [65:0] + [1 2; 3]", 3, api.ErrLarge)
	holdFault(t, "p ) [1 2; 3]", 3, api.ErrGram)
	holdFault(t, "p 1 [1 2; 3]", 5, api.ErrGram)
	holdFault(t, "p [1 2; 3 + 4]", 11, api.ErrGram)
	holdFault(t, "p [1 2; 3", 10, api.ErrGram)
	holdFault(t, "p [65:0", 8, api.ErrGram)
	holdFault(t, "p [65:0 1]", 9, api.ErrGram)
	holdFault(t, "p "+hundred+"[1 2; 3](", 103, api.ErrFit)
	holdFault(t, "p "+hundred+"([1 2; 3]", 103, api.ErrLarge)
	holdFault(t, "p "+hundred+"f([1 2; 3]", 104, api.ErrLarge)
	// Two faults at one token: it cannot stand, and is one too many; it cannot stand, and ends rows that do not fit.
	holdFault(t, "p "+hundred+"5(", 104, api.ErrGram)
	holdFault(t, "p "+hundred+"a'(", 105, api.ErrGram)
	holdFault(t, "p [1 2; 3;]", 11, api.ErrGram)
	holdFault(t, "p [1 2; -]", 10, api.ErrGram)
	holdFault(t, "p [65:]", 7, api.ErrGram)
	holdFault(t, "p [1 2; 3}", 10, api.ErrGram)
}

// P26.1: so many nodes a tree may have; with one more, the fault is told behind all others.
func TestNodes(t *testing.T) {
	most := "p " + strings.Repeat("-", 4094) + "a"
	tree, col, e := syntax.Parse(most)
	if len(tree) != 4096 || col != 0 || e != api.OK {
		t.Errorf("4096 nodes: %d, %d, %d", len(tree), col, e)
	}
	holdLine(t, tree, most, api.OK)
	commas := "p " + strings.Repeat("a,", 4094) + "a"
	if tree, col, e := syntax.Parse(commas); len(tree) != 4096 || col != 0 || e != api.OK {
		t.Errorf("4095 parts: %d, %d, %d", len(tree), col, e)
	}
	for _, line := range []string{
		"p " + strings.Repeat("-", 4095) + "a", "é " + strings.Repeat("a,", 4095) + "a", " let a = a" + strings.Repeat("'", 4095), "p a" + strings.Repeat("*1", 2048), "p f(a" + strings.Repeat(",1", 4094) + ")", "p " + strings.Repeat("-", 1<<16) + "a",
	} {
		holdFault(t, line, 1, api.ErrLarge)
		holdFault(t, line+" )", len([]rune(line))+2, api.ErrGram)
		holdFault(t, line+" -", len([]rune(line))+3, api.ErrGram)
		holdFault(t, line+" - [1 2; 3]", len([]rune(line))+4, api.ErrFit)
		holdFault(t, line+" - [65:0]", len([]rune(line))+4, api.ErrLarge)
	}
}

// P26.1: a number's Text is radix.Dec of what radix.ReadGrouped reads.
func TestNumbers(t *testing.T) {
	for _, digits := range []string{"0", "000", "9", "0_9", "10_0", "18446744073709551615", "018446744073709551616", strings.Repeat("1234567890", 300), strings.Repeat("0_7", 500)} {
		size, _ := radix.ReadGrouped(digits)
		want := radix.Dec(size)
		holdTree(t, "p "+digits, "number "+want+" | do p @0")
		holdTree(t, "p a^"+digits, "name a | pow "+want+" @0 | do p @1")
		holdTree(t, "p {1 "+digits+"}", "complex {1 "+want+"} | do p @0")
		holdTree(t, "p ["+digits+"]", "matrix ["+want+"] | do p @0")
	}
}

// P26.2: the length of the list comes ahead of its form, its form ahead of its brackets.
func TestOrderOfPrint(t *testing.T) {
	holdLine(t, make([]api.Node, 4097), "", api.ErrLarge)
	holdLine(t, make([]api.Node, 4096), "", api.ErrForm)
	most := name("a")
	for range 4094 {
		most = append(most, api.Node{Op: api.OpTurn, Kids: []int{len(most) - 1}})
	}
	ends := func(list []api.Node) []api.Node {
		return append(list, api.Node{Op: api.OpDo, Text: "p", Kids: []int{len(list) - 1}})
	}
	holdLine(t, ends(most), "p a"+strings.Repeat("'", 4094), api.OK)
	holdLine(t, ends(append(most, api.Node{Op: api.OpTurn, Kids: []int{4094}})), "", api.ErrLarge)
}

// nested is an a within so many nodes that make brackets necessary.
func nested(count int, within func(part []api.Node) []api.Node) []api.Node {
	part := nodeOf(api.OpAdd, "", name("a"), name("a"))
	for range count {
		part = within(part)
	}
	return part
}

// P26.2: so many brackets may be open in the printed line, of brackets, of calls and of both.
func TestDepthOfPrint(t *testing.T) {
	withins := []func(part []api.Node) []api.Node{
		func(part []api.Node) []api.Node { return nodeOf(api.OpAdd, "", name("a"), part) },
		func(part []api.Node) []api.Node { return nodeOf(api.OpCall, "f", name("a"), part) },
		func(part []api.Node) []api.Node {
			return nodeOf(api.OpSub, "", nodeOf(api.OpCall, "f", name("a")), part)
		},
	}
	for _, within := range withins {
		deep := nested(100, within)
		holdTreeBack(t, do(deep))
		holdTreeBack(t, do(deep, deep))
		holdTreeBack(t, nodeOf(api.OpLet, "x", deep))
		for _, other := range withins {
			deeper := do(name("a"), other(deep))
			if deepest(plainPrint(deeper)) == 101 {
				holdLine(t, deeper, "", api.ErrLarge)
				deeper[0].Text = ""
				holdLine(t, deeper, "", api.ErrForm)
			}
		}
		holdLine(t, do(within(deep)), "", api.ErrLarge)
		holdLine(t, do(nested(1000, within)), "", api.ErrLarge)
	}
	// As many nodes one within the other, but no brackets between.
	flat := name("a")
	for range 1000 {
		flat = nodeOf(api.OpSub, "", flat, name("b"))
	}
	holdLine(t, do(flat), "print a"+strings.Repeat(" - b", 1000), api.OK)
}

// P26.4.
func TestMatText(t *testing.T) {
	for _, text := range []string{"[0:0]", "[0:1]", "[1:0]", "[0:64]", "[64:0]", "[7:0]"} {
		var a api.Mat
		fmt.Sscanf(text, "[%d:%d]", &a.Rows, &a.Cols)
		holdMatText(t, a, text, api.OK)
		a.At = []api.Int{}
		holdMatText(t, a, text, api.OK)
	}
	long := check.Plus(0, 0, 1, 0)
	holdMatText(t, check.Filled(1, 1, check.Nums(0)), "[0]", api.OK)
	holdMatText(t, api.Mat{Rows: 2, Cols: 3, At: []api.Int{check.Minus(), check.Minus(0, 0), check.Minus(1, 0), check.Plus(0), long, check.Minus(0, 1)}}, "[0 0 -1; 0 340282366920938463463374607431768211456 -18446744073709551616]", api.OK)
	holdMatText(t, check.Filled(3, 1, check.Nums(1, -2, 3)), "[1; -2; 3]", api.OK)
	for _, a := range check.Unsound() {
		holdMatText(t, a, "", api.ErrMat)
	}
}

func holdMatText(t *testing.T, a api.Mat, want string, wantE api.Errno) {
	t.Helper()
	text, e := syntax.MatText(a)
	check.Same(t, fmt.Sprintf("MatText of %v", a), text, want)
	check.Same(t, fmt.Sprintf("MatText of %v: the error", a), e, wantE)
}

// P26.4.
func TestQMatText(t *testing.T) {
	one, none := check.Num(1), api.Int{}
	holdQMatText(t, api.QMat{}, "[0:0]", api.OK)
	holdQMatText(t, api.QMat{Cols: 64, At: []api.Frac{}}, "[0:64]", api.OK)
	holdQMatText(t, api.QMat{Rows: 5}, "[5:0]", api.OK)
	holdQMatText(t, check.FracMatrix("1/2 -1/2; 0 1"), "[1/2 -1/2; 0 1]", api.OK)
	at := []api.Frac{{Num: check.Num(-4), Den: check.Num(-6)}, {Num: one, Den: check.Minus(2, 0)}, {Num: check.Minus(0), Den: check.Num(-7)}, {Num: check.Plus(0, 2), Den: check.Plus(2, 0)}, {Num: check.Num(6), Den: check.Num(-3)}, {Num: one, Den: check.Plus(0, 1)}}
	holdQMatText(t, api.QMat{Rows: 2, Cols: 3, At: at}, "[2/3 -1/2 0; 18446744073709551616 -2 1/18446744073709551616]", api.OK)
	for _, zero := range []api.Int{none, check.Minus(), check.Plus(0, 0), check.Minus(0)} {
		for i := range 4 {
			q := check.FracMatrix("1 2; 3 4")
			q.At[i].Den = zero
			holdQMatText(t, q, "", api.ErrZero)
			q.Rows = 3
			holdQMatText(t, q, "", api.ErrMat)
		}
	}
	for _, a := range check.Unsound() {
		q := api.QMat{Rows: a.Rows, Cols: a.Cols}
		for range a.At {
			q.At = append(q.At, api.Frac{Num: one, Den: one})
		}
		holdQMatText(t, q, "", api.ErrMat)
	}
}

func holdQMatText(t *testing.T, q api.QMat, want string, wantE api.Errno) {
	t.Helper()
	text, e := syntax.QMatText(q)
	check.Same(t, fmt.Sprintf("QMatText of %v", q), text, want)
	check.Same(t, fmt.Sprintf("QMatText of %v: the error", q), e, wantE)
}

// P26.5: one matrix and nothing else, but blanks and a remark around it.
func TestReadMat(t *testing.T) {
	holdReadMat(t, "\t\u00a0[ 01  2_0 ;\u22123 - 4 ] # [", "[1 20; -3 -4]", api.OK)
	holdReadMat(t, "[0:0]#", noMatrix, api.OK)
	holdReadMat(t, " [1:02] ", "[0 0]", api.OK)
	for _, s := range []string{
		"", " ", "#", "# [1]", "7", "a", "x", "let", "let a = [1]", "print [1]", "names", "-[1]", "[1]'", "([1])", "[1]^2", "[1]*[1]", "[1] [1]", "[1],[2]", "f([1])", "{}", "{0}", "(", ")", "]", "[", "[]", "[1", "[1:", "[1:2", "[-", "[-1:2]", "[1:-2]", "[a]",
		"[1;]", "[1 2; 3;]", "[1 2; 3", "[65:0", "[1.5]", "[1/2]", "[1] $", "[1 2; 3] $", "[65:0] \xff", "[1] # \xff", "[1]\n", "\n[1]", "[1;\n2]", "[1__0]", "[1_]", "$ [1 2; 3]", ") [65:0]", "[1] [65:0]", "[1] [1 2; 3]", "[1] " + strings.Repeat("a", 33), strings.Repeat("(", 101) + "[1]", strings.Repeat("-", 5000) + "[1]",
	} {
		holdReadMat(t, s, noMatrix, api.ErrText)
	}
	for _, behind := range []string{"", " x", " [65:0]", ")", "'", " 5 5", " # é"} {
		holdReadMat(t, "[1 2; 3]"+behind, noMatrix, api.ErrFit)
		holdReadMat(t, "[65:0]"+behind, noMatrix, api.ErrLarge)
	}
	holdReadMat(t, "[1 2; 3] 1__0", noMatrix, api.ErrText)
	holdReadMat(t, "[1 2; 3] "+strings.Repeat("a", 33), noMatrix, api.ErrText)
}

// P26.6.
func TestComplexText(t *testing.T) {
	for _, text := range []string{"", "0", "7", "0 1 2,2 3", "3 3,3 3,0", "9223372036854775807 0"} {
		want := "{" + strings.ReplaceAll(text, ",", ", ") + "}"
		holdComplexText(t, check.Lists(text), want, api.OK)
	}
	for _, facets := range [][][]int{{{}}, {nil}, {{0}, {}}, {{}, {0}}, {{0, 1}, nil, {2}}, {{-1}}, {{0, -1}}, {{-1, 0}}, {{0}, {5, math.MinInt, 3}}} {
		holdComplexText(t, facets, "", api.ErrArg)
	}
}

func holdComplexText(t *testing.T, facets [][]int, want string, wantE api.Errno) {
	t.Helper()
	text, e := syntax.ComplexText(facets)
	check.Same(t, fmt.Sprintf("ComplexText of %v", facets), text, want)
	check.Same(t, fmt.Sprintf("ComplexText of %v: the error", facets), e, wantE)
}

// P26.6: one complex and nothing else, but blanks and a remark around it.
func TestReadComplex(t *testing.T) {
	for _, c := range [][2]string{
		{"{}", ""}, {" { } #", ""}, {"{0}", "0"}, {"\u00a0{00 1_0,\t2 2}", "0 10,2 2"}, {"{9223372036854775807}", "9223372036854775807"}, {"{09_223_372_036_854_775_807, 0}", "9223372036854775807,0"}, {"{1000000}", "1000000"},
	} {
		holdReadComplex(t, c[0], check.Lists(c[1]), api.OK)
	}
	for _, s := range []string{
		"", "#", "0", "a", "let", "print {}", "[0]", "[0:0]", "{", "}", "{0", "{0,", "{0,}", "{,0}", "{0,,1}", "{-1}", "{a}", "{0;1}", "{{0}}", "({0})", "-{0}", "{0}'", "{0}{1}", "{0} 1", "{0} $", "{0 \xff}", "{0} # \xff", "{0}\n", "{1__0}", "{0 1.5}",
		"{9223372036854775808}", "{0, 1 9223372036854775808}", "{18446744073709551616}", "{18446744073709551617, 0}", "{0} [1 2; 3]", "{9223372036854775808} [65:0]",
	} {
		holdReadComplex(t, s, nil, api.ErrText)
	}
}

func holdReadComplex(t *testing.T, s string, want [][]int, wantE api.Errno) {
	t.Helper()
	facets, e := syntax.ReadComplex(s)
	check.SameLists(t, fmt.Sprintf("ReadComplex(%q)", s), facets, want)
	check.Same(t, fmt.Sprintf("ReadComplex(%q)'s error", s), e, wantE)
}
