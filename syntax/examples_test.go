package syntax_test

import (
	"fmt"
	"strings"
	"testing"

	"trellis/api"
	"trellis/check"
	"trellis/syntax"
)

// The examples of the chapter.

// told writes a list of nodes, so that tests can be read: each node's operator, its Text, and its parts' places behind @.
func told(list []api.Node) string {
	words := []string{"?", "number", "name", "matrix", "neg", "turn", "add", "sub", "mul", "pow", "call", "let", "do", "complex", "nothing"}
	var nodes []string
	for _, n := range list {
		node := fmt.Sprint(n.Op)
		if n.Op > 0 && n.Op < len(words) {
			node = words[n.Op]
		}
		if n.Text != "" {
			node += " " + n.Text
		}
		for _, kid := range n.Kids {
			node += fmt.Sprint(" @", kid)
		}
		nodes = append(nodes, node)
	}
	return strings.Join(nodes, " | ")
}

// holdTree asks for the tree of a line that has no fault.
func holdTree(t *testing.T, line, want string) {
	t.Helper()
	tree, col, e := syntax.Parse(line)
	if told(tree) != want || col != 0 || e != api.OK {
		t.Errorf("Parse(%.80q): %.200s, %d, %d, want %.200s", line, told(tree), col, e, want)
	}
}

// holdFault asks for the fault of a line.
func holdFault(t *testing.T, line string, wantCol int, wantE api.Errno) {
	t.Helper()
	tree, col, e := syntax.Parse(line)
	if len(tree) != 0 || col != wantCol || e != wantE {
		t.Errorf("Parse(%.80q): %.200s, %d, %d, want a fault: %d, %d", line, told(tree), col, e, wantCol, wantE)
	}
}

// holdPrinted asks how a line is printed when it has been read.
func holdPrinted(t *testing.T, line, want string) {
	t.Helper()
	tree, _, e := syntax.Parse(line)
	check.Same(t, fmt.Sprintf("the error of Parse(%.80q)", line), e, api.OK)
	holdLine(t, tree, want, api.OK)
}

// holdLine asks for the line that a list of nodes writes, or for the error beside which there is none.
func holdLine(t *testing.T, list []api.Node, want string, wantE api.Errno) {
	t.Helper()
	line, e := syntax.Print(list)
	if line != want || e != wantE {
		t.Errorf("Print of %.200s: %.200q, %d, want %.200q, %d", told(list), line, e, want, wantE)
	}
}

// holdReadMat asks for the matrix that s writes, given by its text, or for the error beside which there is none.
func holdReadMat(t *testing.T, s, want string, wantE api.Errno) {
	t.Helper()
	a, e := syntax.ReadMat(s)
	check.Same(t, fmt.Sprintf("ReadMat(%.80q)'s error", s), e, wantE)
	text, e := syntax.MatText(a)
	check.Same(t, fmt.Sprintf("the error of the text of ReadMat(%.80q)", s), e, api.OK)
	check.Same(t, fmt.Sprintf("the text of ReadMat(%.80q)", s), text, want)
}

// noMatrix is the text of the matrix that stands beside an error.
const noMatrix = "[0:0]"

// P26.1.
func TestExamplesOfParse(t *testing.T) {
	holdTree(t, "print -A'^2", "name A | turn @0 | pow 2 @1 | neg @2 | do print @3")
	holdTree(t, "print -2^2", "number 2 | pow 2 @0 | neg @1 | do print @2")
	holdTree(t, "det(A)", "name A | do det @0")
	holdTree(t, "let let = 5", "number 5 | let let @0")
	holdTree(t, "print let", "name let | do print @0")
	holdTree(t, "print [3 - 1]", "matrix [3 -1] | do print @0")
	holdTree(t, "names", "do names")
	holdTree(t, " # é", "nothing")
	holdTree(t, "print {}", "complex {} | do print @0")
	holdTree(t, "print {0 01, 2}", "complex {0 1, 2} | do print @0")
}

// P26.1.
func TestExamplesOfFaults(t *testing.T) {
	holdFault(t, "let", 4, api.ErrGram)
	holdFault(t, "let 5", 5, api.ErrGram)
	holdFault(t, "let x = 5 6", 11, api.ErrGram)
	holdFault(t, "print [-1:2]", 10, api.ErrGram)
	holdFault(t, "print [1 2; 3] $", 16, api.ErrRune)
	holdFault(t, "print [1 2; 3] 7", 7, api.ErrFit)
	holdFault(t, "print [1 2; 3", 14, api.ErrGram)
	holdFault(t, "print 2x", 8, api.ErrGram)
	holdFault(t, "5", 1, api.ErrGram)
}

// P26.2.
func TestExamplesOfPrint(t *testing.T) {
	holdPrinted(t, "print -A'^2", "print -A'^2")
	holdPrinted(t, "print (1 - 2) - (3 - 04)*x", "print 1 - 2 - (3 - 4)*x")
	holdPrinted(t, "det(A)", "det A")
}

// P26.4 and P26.5.
func TestExamplesOfMatrices(t *testing.T) {
	holdReadMat(t, "[2:3]", "[0 0 0; 0 0 0]", api.OK)
	holdReadMat(t, "[65:0]", noMatrix, api.ErrLarge)
	holdReadMat(t, "[1 2; 3] x", noMatrix, api.ErrFit)
	holdReadMat(t, "[1 2; 3] $", noMatrix, api.ErrText)
	holdReadMat(t, "7", noMatrix, api.ErrText)
}
