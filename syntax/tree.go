package syntax

import (
	"slices"
	"strings"

	"trellis/api"
	"trellis/lexer"
	"trellis/zint"
)

// isTree tells whether the list is a tree.
func isTree(list []api.Node) bool {
	last := len(list) - 1
	begins := make([]int, len(list)) // for each node the place at which its parts' nodes begin
	for i, n := range list {
		if isWhole(n.Op) != (i == last) || !hasCount(n.Op, len(n.Kids)) || !hasText(n.Op, n.Text) {
			return false
		}
		begins[i] = i
		for _, kid := range slices.Backward(n.Kids) {
			if begins[i] == 0 || kid != begins[i]-1 {
				return false
			}
			begins[i] = begins[kid]
		}
	}
	return last >= 0 && begins[last] == 0
}

// isWhole tells whether the operator is one of a whole line.
func isWhole(op int) bool {
	return op == api.OpLet || op == api.OpDo || op == api.OpNothing
}

// hasCount tells whether a node of that operator may have so many parts.
func hasCount(op, parts int) bool {
	switch op {
	case api.OpNumber, api.OpName, api.OpMatrix, api.OpComplex, api.OpNothing:
		return parts == 0
	case api.OpNeg, api.OpTurn, api.OpPow, api.OpLet:
		return parts == 1
	case api.OpAdd, api.OpSub, api.OpMul:
		return parts == 2
	case api.OpCall:
		return parts > 0
	}
	return op == api.OpDo
}

// hasText tells whether a node of that operator may have that Text.
func hasText(op int, text string) bool {
	switch op {
	case api.OpNumber, api.OpPow:
		return isNumeral(text)
	case api.OpMatrix:
		return isMatrix(text)
	case api.OpComplex:
		return isComplex(text)
	case api.OpName, api.OpCall, api.OpLet:
		return isName(text)
	case api.OpDo:
		return isName(text) && text != letWord
	}
	return text == ""
}

func isNumeral(text string) bool {
	if text == "" || strings.Trim(text, "0123456789") != "" {
		return false
	}
	return text == "0" || text[0] != '0'
}

// isMatrix tells whether MatText answers the text: of what it writes, only that one is written again.
func isMatrix(text string) bool {
	a, e := ReadMat(text)
	written, _ := MatText(a) // no error: what is read is sound
	return e == api.OK && written == text
}

// isComplex is for complexes with numbers of any size, which ReadComplex does not read.
func isComplex(text string) bool {
	written := ""
	f := caught(func() { written = facetsText(readerOf(text).onlyComplex(), zint.Text) })
	return f.e == api.OK && written == text
}

func isName(text string) bool {
	tokens, _, e := lexer.Tokens(text)
	return e == api.OK && len(tokens) == 1 && tokens[0].Kind == api.Name && tokens[0].Text == text
}
