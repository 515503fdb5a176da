package syntax

import (
	"slices"

	"trellis/api"
	"trellis/zint"
)

// letWord is the name that a let line begins with, and no other line.
const letWord = "let"

// line is the tree of the whole line.
func (r *reader) line() []api.Node {
	switch first := r.next(); {
	case first.Kind == 0:
		r.node(api.OpNothing, "")
	case first.Text == letWord:
		r.let()
	default:
		r.command()
	}
	r.end()
	if len(r.tree) > api.MaxNodes {
		giveUp(1, api.ErrLarge)
	}
	return r.tree
}

func (r *reader) let() {
	r.takeKind(api.Name)
	name := r.takeKind(api.Name)
	r.take("=")
	r.node(api.OpLet, name, r.expr())
}

func (r *reader) command() {
	word := r.takeKind(api.Name)
	var parts []int
	if r.next().Kind != 0 {
		parts = r.exprs()
	}
	r.node(api.OpDo, word, parts...)
}

// exprs takes one expr or more, with commas between, and answers the places of their nodes.
func (r *reader) exprs() []int {
	places := []int{r.expr()}
	for r.takeIf(",") {
		places = append(places, r.expr())
	}
	return places
}

// expr, and the rules below it, answer the place of the node that they make last.
func (r *reader) expr() int {
	place := r.term()
	for {
		switch {
		case r.takeIf("+"):
			place = r.node(api.OpAdd, "", place, r.term())
		case r.takeIf("-"):
			place = r.node(api.OpSub, "", place, r.term())
		default:
			return place
		}
	}
}

func (r *reader) term() int {
	place := r.factor()
	for r.takeIf("*") {
		place = r.node(api.OpMul, "", place, r.factor())
	}
	return place
}

// factor counts its signs in the place of calling itself, since nothing but the line's length bounds them.
func (r *reader) factor() int {
	signs := 0
	for r.takeIf("-") {
		signs++
	}
	place := r.power()
	for range signs {
		place = r.node(api.OpNeg, "", place)
	}
	return place
}

func (r *reader) power() int {
	place := r.post()
	if r.takeIf("^") {
		place = r.node(api.OpPow, zint.Text(r.number()), place)
	}
	return place
}

func (r *reader) post() int {
	place := r.atom()
	for r.takeIf("'") {
		place = r.node(api.OpTurn, "", place)
	}
	return place
}

func (r *reader) atom() int {
	switch first := r.next(); {
	case first.Kind == api.Number:
		return r.node(api.OpNumber, zint.Text(r.number()))
	case first.Kind == api.Name:
		return r.nameOrCall()
	case r.comes("("):
		r.takeOpening()
		place := r.expr()
		r.takeClosing()
		return place
	case r.comes("["):
		text, _ := MatText(r.matrix()) // no error: what is read is sound
		return r.node(api.OpMatrix, text)
	}
	// Nothing else can stand here.
	return r.node(api.OpComplex, facetsText(r.complex(), zint.Text))
}

func (r *reader) nameOrCall() int {
	name := r.takeKind(api.Name)
	if !r.comes("(") {
		return r.node(api.OpName, name)
	}
	r.takeOpening()
	places := r.exprs()
	r.takeClosing()
	return r.node(api.OpCall, name, places...)
}

func (r *reader) takeOpening() {
	col := r.take("(")
	if r.open == api.MaxDepth {
		giveUp(col, api.ErrLarge)
	}
	r.open++
}

func (r *reader) takeClosing() {
	r.take(")")
	r.open--
}

// node puts a finished node into the tree, and answers its place.
func (r *reader) node(op int, text string, kids ...int) int {
	r.tree = append(r.tree, api.Node{Op: op, Text: text, Kids: slices.Clone(kids)})
	return len(r.tree) - 1
}
