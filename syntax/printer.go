package syntax

import (
	"strings"

	"trellis/api"
)

// printer writes a line, and gives up where too many brackets are open.
type printer struct {
	tree []api.Node
	line strings.Builder
	open int // how many brackets ( are open
}

// printed is the line of a tree.
func printed(tree []api.Node) string {
	p := printer{tree: tree}
	p.node(len(tree) - 1)
	return p.line.String()
}

// node writes the node at that place with its parts.
func (p *printer) node(place int) {
	n := p.tree[place]
	switch n.Op {
	case api.OpLet:
		p.write("let ", n.Text, " = ")
		p.parts(n.Kids)
	case api.OpDo:
		p.command(n)
	case api.OpAdd:
		p.between(n, " + ", ofExpr, ofTerm)
	case api.OpSub:
		p.between(n, " - ", ofExpr, ofTerm)
	case api.OpMul:
		p.between(n, "*", ofTerm, ofFactor)
	case api.OpNeg:
		p.write("-")
		p.part(n.Kids[0], ofFactor)
	case api.OpTurn:
		p.part(n.Kids[0], ofPost)
		p.write("'")
	case api.OpPow:
		p.part(n.Kids[0], ofPost)
		p.write("^", n.Text)
	case api.OpCall:
		p.call(n)
	default:
		p.write(n.Text)
	}
}

func (p *printer) command(n api.Node) {
	p.write(n.Text)
	if len(n.Kids) > 0 {
		p.write(" ")
	}
	p.parts(n.Kids)
}

func (p *printer) call(n api.Node) {
	p.write(n.Text)
	p.opening()
	p.parts(n.Kids)
	p.closing()
}

// parts writes parts that need no brackets, as nothing but commas stands beside them.
func (p *printer) parts(places []int) {
	for i, place := range places {
		if i > 0 {
			p.write(", ")
		}
		p.node(place)
	}
}

// between writes the two parts of a node with a mark between; left and right tell which rules they must be of.
func (p *printer) between(n api.Node, mark string, left, right int) {
	p.part(n.Kids[0], left)
	p.write(mark)
	p.part(n.Kids[1], right)
}

// part writes a part that must be of that rule, or of one below it: another part stands in brackets.
func (p *printer) part(place, rule int) {
	if ruleOf(p.tree[place].Op) >= rule {
		p.node(place)
		return
	}
	p.opening()
	p.node(place)
	p.closing()
}

func (p *printer) opening() {
	p.open++
	if p.open > api.MaxDepth {
		giveUp(0, api.ErrLarge)
	}
	p.write("(")
}

func (p *printer) closing() {
	p.open--
	p.write(")")
}

func (p *printer) write(texts ...string) {
	for _, text := range texts {
		p.line.WriteString(text)
	}
}

// The rules of the grammar that a part may be of without brackets, each being made of those below it.
const (
	ofExpr = iota
	ofTerm
	ofFactor
	ofPower
	ofPost
)

// ruleOf is the lowest rule by which the operator is written.
func ruleOf(op int) int {
	switch op {
	case api.OpAdd, api.OpSub:
		return ofExpr
	case api.OpMul:
		return ofTerm
	case api.OpNeg:
		return ofFactor
	case api.OpPow:
		return ofPower
	}
	return ofPost
}
