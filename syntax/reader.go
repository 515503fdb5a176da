package syntax

import (
	"trellis/api"
	"trellis/lexer"
	"trellis/radix"
)

// reader goes through the tokens of a line from the left, and gives up at the first fault. Each rule of the grammar is a method, which takes the tokens of that rule.
type reader struct {
	tokens []api.Token // those that are not taken yet; the last one, of no kind, stands for the line's end
	tree   []api.Node  // the nodes that are finished
	open   int         // how many brackets ( are open
}

// readerOf stands ahead of the first token of the line.
func readerOf(line string) *reader {
	tokens, col, e := lexer.Tokens(line)
	if e != api.OK {
		giveUp(col, e)
	}
	count, _ := lexer.Columns(line) // no error: the tokens would have been refused
	return &reader{tokens: append(tokens, api.Token{Col: count + 1})}
}

// next is the first token that is not taken yet.
func (r *reader) next() api.Token {
	return r.tokens[0]
}

// comes tells whether the next token is that mark. (Numbers, names and the line's end have other texts.)
func (r *reader) comes(mark string) bool {
	return r.next().Text == mark
}

// takeIf takes the next token if it is that mark, and tells whether it was.
func (r *reader) takeIf(mark string) bool {
	if !r.comes(mark) {
		return false
	}
	r.tokens = r.tokens[1:]
	return true
}

// take takes that mark, the only token that can stand here, and answers its column.
func (r *reader) take(mark string) int {
	col := r.next().Col
	if !r.takeIf(mark) {
		r.stray()
	}
	return col
}

// takeKind takes a token of that kind, the only one that can stand here, and answers its text.
func (r *reader) takeKind(kind int) string {
	first := r.next()
	if first.Kind != kind {
		r.stray()
	}
	r.tokens = r.tokens[1:]
	return first.Text
}

// number takes a Number.
func (r *reader) number() api.Int {
	size, _ := radix.ReadGrouped(r.takeKind(api.Number)) // no error: as a token it is of that form
	return api.Int{Mag: size}
}

// end is for where nothing but the line's end can stand.
func (r *reader) end() {
	if r.next().Kind != 0 {
		r.stray()
	}
}

// stray gives up at the next token, which cannot stand where it stands.
func (r *reader) stray() {
	giveUp(r.next().Col, api.ErrGram)
}
