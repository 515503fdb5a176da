package syntax_test

import (
	"slices"
	"strings"
	"testing"

	"trellis/api"
	"trellis/made"
	"trellis/syntax"
)

// sameTree tells whether two lists have the same nodes.
func sameTree(a, b []api.Node) bool {
	return slices.EqualFunc(a, b, func(n, m api.Node) bool {
		return n.Op == m.Op && n.Text == m.Text && slices.Equal(n.Kids, m.Kids)
	})
}

// holdPlain holds Parse of a line, Print of its tree and Parse of the printed line against the plain reckoning.
func holdPlain(t *testing.T, line string) {
	t.Helper()
	want, wantCol, wantE := plainParse(line)
	tree, col, e := syntax.Parse(line)
	if !sameTree(tree, want) || col != wantCol || e != wantE {
		t.Errorf("Parse(%.300q): %s, %d, %d, want %s, %d, %d", line, told(tree), col, e, told(want), wantCol, wantE)
	}
	if e == api.OK {
		holdBack(t, line, tree)
	}
}

// holdBack holds Print of the tree that Parse answers for a line against the plain reckoning and P26.3.
func holdBack(t *testing.T, line string, tree []api.Node) {
	t.Helper()
	printed, e := syntax.Print(tree)
	if want := plainPrint(tree); printed != want || e != api.OK {
		t.Errorf("%.300q printed: %q, %d, want %q", line, printed, e, want)
	}
	if deepest(printed) > deepest(line) {
		t.Errorf("%.300q printed: %q: more brackets are open", line, printed)
	}
	holdReadAgain(t, printed, tree)
}

// holdReadAgain asks for the tree of which a line has been printed.
func holdReadAgain(t *testing.T, printed string, tree []api.Node) {
	t.Helper()
	if again, col, e := syntax.Parse(printed); !sameTree(again, tree) || col != 0 || e != api.OK {
		t.Errorf("Parse(%.300q): %s, %d, %d, want %s", printed, told(again), col, e, told(tree))
	}
}

// words are tokens of every kind.
func words() []string {
	return []string{"let", "a", "2", "+", "-", "*", "^", "'", "(", ")", "[", "]", "{", "}", ",", ";", ":", "="}
}

// tokenOf is a word as a token.
func tokenOf(word string) api.Token {
	switch {
	case word == "2":
		return api.Token{Kind: api.Number, Text: word}
	case word == "let", word == "a":
		return api.Token{Kind: api.Name, Text: word}
	}
	return api.Token{Kind: api.Mark, Text: word}
}

// walk holds Parse against the grammar at every line that goes on from this one with so many words or fewer: as long as a line of the grammar begins so, each word is tried.
func walk(t *testing.T, c *chart, line string, more int) {
	col := len(line) + 1 // of the next word: each has a blank behind it
	_, gotCol, e := syntax.Parse(line)
	if c.isLine() || e == api.ErrFit {
		holdPlain(t, line)
	} else if gotCol != col || e != api.ErrGram {
		t.Errorf("Parse(%q): %d, %d, want %d, %d", line, gotCol, e, col, api.ErrGram)
	}
	if more == 0 || e == api.ErrFit { // behind such a matrix all is the same fault
		return
	}
	for _, word := range words() {
		if c.then(tokenOf(word)) {
			walk(t, c, line+word+" ", more-1)
		} else if _, gotCol, e := syntax.Parse(line + word); gotCol != col || e != api.ErrGram {
			t.Errorf("Parse(%q): %d, %d, want %d, %d", line+word, gotCol, e, col, api.ErrGram)
		}
		c.back()
	}
}

// P26.1: which token is the first that cannot stand, for all lines of few tokens, and for those that begin in some telling ways and go on for a few.
func TestAllShortLines(t *testing.T) {
	walk(t, newChart(), "", 7)
	for _, begun := range []string{"let a =", "a [ 2 :", "a [ - 2", "a [ 2 2 ; 2", "a { 2 2 ,", "a ( a (", "a a ( 2 , ", "a - a ^ 2 *"} {
		c := newChart()
		line := ""
		for word := range strings.FieldsSeq(begun) {
			c.then(tokenOf(word))
			line += word + " "
		}
		walk(t, c, line, 5)
	}
}

// writer writes lines by the rules of the grammar, other ones for each seed.
type writer struct {
	made.Source
	words []string
}

// pick is one of the words.
func (w *writer) pick(words ...string) string {
	return words[w.Word()%uint64(len(words))]
}

// chance is true once in so many times.
func (w *writer) chance(times uint64) bool {
	return w.Word()%times == 0
}

func (w *writer) add(words ...string) {
	w.words = append(w.words, words...)
}

func (w *writer) number() {
	if w.chance(16) {
		w.add(w.pick("63", "064", "6_5"))
		return
	}
	w.add(w.pick("0", "2", "007", "1_000", "18446744073709551616", "0_0", "9_223_372_036_854_775_807"))
}

func (w *writer) name() string {
	return w.pick("a", "let", "é1", "λ", "_f", strings.Repeat("x", 32), "A_2")
}

func (w *writer) line() {
	w.words = nil
	if w.chance(4) {
		w.add("let", w.name(), "=")
		w.expr(4)
		return
	}
	w.add(w.pick("a", "print", "é1", "λ"))
	if !w.chance(8) {
		w.list(4)
	}
}

func (w *writer) list(deep int) {
	w.expr(deep)
	for len(w.words) < 300 && w.chance(3) {
		w.add(",")
		w.expr(deep)
	}
}

// expr writes an expr in which no more than so many stand one within the other.
func (w *writer) expr(deep int) {
	for {
		for w.chance(4) {
			w.add("-")
		}
		w.atom(deep - 1)
		for w.chance(4) {
			w.add("'")
		}
		if w.chance(5) {
			w.add("^")
			w.number()
		}
		if len(w.words) > 300 || w.chance(2) {
			return
		}
		w.add(w.pick("+", "-", "*"))
	}
}

func (w *writer) atom(deep int) {
	kind := w.Word() % 7
	switch {
	case kind == 0 && deep > 0:
		w.add(w.name(), "(")
		w.list(deep)
		w.add(")")
	case kind < 4 && deep > 0:
		w.add("(")
		w.expr(deep)
		w.add(")")
	case kind == 4:
		w.matrix()
	case kind == 5:
		w.complex()
	case w.chance(2):
		w.number()
	default:
		w.add(w.name())
	}
}

func (w *writer) matrix() {
	w.add("[")
	w.number()
	if w.chance(4) {
		w.add(":")
		w.number()
		w.add("]")
		return
	}
	w.number()
	for w.chance(2) {
		w.add(";", "-")
		w.number()
		w.number()
		if w.chance(8) {
			w.number()
		}
	}
	w.add("]")
}

func (w *writer) complex() {
	w.add("{")
	for first := true; !w.chance(3); first = false {
		if !first {
			w.add(",")
		}
		w.number()
		for w.chance(2) {
			w.number()
		}
	}
	w.add("}")
}

// spoil puts a word in, or leaves one out, or changes one.
func (w *writer) spoil() {
	at := int(w.Word() % uint64(len(w.words)))
	word := w.pick(words()...)
	switch w.Word() % 3 {
	case 0:
		w.words = slices.Insert(w.words, at, word)
	case 1:
		w.words[at] = word
	default:
		w.words = slices.Delete(w.words, at, at+1)
	}
}

// text is the line, with blanks, remarks and signs of any kind.
func (w *writer) text() string {
	text := w.pick("", " ", "\t", "\u00a0")
	for _, word := range w.words {
		switch {
		case word == "-":
			text += w.pick("-", "\u2212")
		case word == "*":
			text += w.pick("*", "\u00d7")
		case len(word) == 1 && strings.Contains("+^'()[]{},;:=", word):
			text += word
		default: // what could run together with its neighbours
			text += " " + word + w.pick(" ", "\u00a0 ", "\t")
		}
		text += w.pick("", "", "", " ", "  ", "\u00a0")
	}
	return text + w.pick("", "", "", "#", " # é (", "# ]\u2028\t")
}

// P26.1 to P26.3 for long lines of the grammar, as they are and with faults in them: every kind of blank, of remark and of sign, and numbers in each form.
func TestLongLines(t *testing.T) {
	w := writer{Source: made.Source{Seed: 26}}
	faults := map[api.Errno]int{}
	for range 3000 {
		w.line()
		holdPlain(t, w.text())
		for range 3 {
			if len(w.words) > 0 {
				w.spoil()
			}
			line := w.text()
			holdPlain(t, line)
			_, _, e := syntax.Parse(line)
			faults[e]++
		}
	}
	for _, e := range []api.Errno{api.OK, api.ErrGram, api.ErrFit, api.ErrLarge} {
		if faults[e] < 100 {
			t.Errorf("only %d lines were answered by %d", faults[e], e)
		}
	}
}
