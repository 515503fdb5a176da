package syntax_test

import (
	"slices"
	"strconv"
	"strings"

	"trellis/api"
	"trellis/lexer"
)

// The chapter's words reckoned by themselves: the grammar as it is written there, asked token by token which of its rules may stand; the tree by cutting a line where its loosest operator stands; the line by the table of brackets.

// grammar is that of the chapter, a repetition written as a rule that begins with itself. In it 'word' is a Name that is not "let".
const grammar = `
line =
line = let NAME '=' expr
line = word
line = word list
list = expr
list = list ',' expr
expr = term
expr = expr '+' term
expr = expr '-' term
term = factor
term = term '*' factor
factor = '-' factor
factor = power
power = post
power = post '^' NUMBER
post = atom
post = post '''
atom = NUMBER
atom = NAME
atom = NAME '(' list ')'
atom = '(' expr ')'
atom = matrix
atom = complex
matrix = '[' NUMBER ':' NUMBER ']'
matrix = '[' rows ']'
rows = row
rows = rows ';' row
row = entry
row = row entry
entry = NUMBER
entry = '-' NUMBER
complex = '{' '}'
complex = '{' simplexes '}'
simplexes = simplex
simplexes = simplexes ',' simplex
simplex = NUMBER
simplex = simplex NUMBER
NAME = let
NAME = word
`

// rule is one line of the grammar: what it makes, and of what.
type rule struct {
	makes string
	of    []string
}

func rules() []rule {
	var all []rule
	for line := range strings.Lines(strings.TrimSpace(grammar)) {
		makes, of, _ := strings.Cut(line, " =")
		all = append(all, rule{makes, strings.Fields(of)})
	}
	return all
}

// chart tells which rules of the grammar may stand at each place of a beginning of a line (by Earley's way).
type chart struct {
	rules []rule
	sets  [][]item // one for each place between tokens
}

// item is a rule, how much of it has been seen, and the place at which it began.
type item struct {
	rule, seen, from int
}

func newChart() *chart {
	c := &chart{rules: rules()}
	var first []item
	for i, r := range c.rules {
		if r.makes == "line" {
			first = append(first, item{rule: i})
		}
	}
	c.sets = [][]item{first}
	c.close()
	return c
}

// awaited is what an item asks for next, and "" if it is whole.
func (c *chart) awaited(one item) string {
	of := c.rules[one.rule].of
	if one.seen == len(of) {
		return ""
	}
	return of[one.seen]
}

// close adds to the last set what its items make, and what they ask for.
func (c *chart) close() {
	last := len(c.sets) - 1
	for at := 0; at < len(c.sets[last]); at++ {
		one := c.sets[last][at]
		awaited := c.awaited(one)
		if awaited == "" {
			for _, waiting := range c.sets[one.from] {
				if c.awaited(waiting) == c.rules[one.rule].makes {
					c.add(item{waiting.rule, waiting.seen + 1, waiting.from})
				}
			}
			continue
		}
		for i, r := range c.rules {
			if r.makes == awaited {
				c.add(item{rule: i, from: last})
			}
		}
	}
}

func (c *chart) add(one item) {
	last := len(c.sets) - 1
	if !slices.Contains(c.sets[last], one) {
		c.sets[last] = append(c.sets[last], one)
	}
}

// then takes one token more, and tells whether a line of the grammar begins so.
func (c *chart) then(token api.Token) bool {
	wanted := "'" + token.Text + "'"
	switch {
	case token.Kind == api.Number:
		wanted = "NUMBER"
	case token.Text == "let":
		wanted = "let"
	case token.Kind == api.Name:
		wanted = "word"
	}
	var next []item
	for _, one := range c.sets[len(c.sets)-1] {
		if c.awaited(one) == wanted {
			next = append(next, item{one.rule, one.seen + 1, one.from})
		}
	}
	c.sets = append(c.sets, next)
	c.close()
	return len(next) > 0
}

// back forgets the last token.
func (c *chart) back() {
	c.sets = c.sets[:len(c.sets)-1]
}

// isLine tells whether the tokens taken are a whole line.
func (c *chart) isLine() bool {
	return slices.ContainsFunc(c.sets[len(c.sets)-1], func(one item) bool {
		return c.rules[one.rule].makes == "line" && c.awaited(one) == ""
	})
}

// plainParse goes by P26.1.
func plainParse(line string) ([]api.Node, int, api.Errno) {
	tokens, col, e := lexer.Tokens(line)
	if e != api.OK {
		return nil, col, e
	}
	c := newChart()
	for i, token := range tokens {
		if !c.then(token) {
			return nil, token.Col, api.ErrGram
		}
		if col, e := plainLimit(tokens[:i+1]); e != api.OK {
			return nil, col, e
		}
	}
	if !c.isLine() {
		count, _ := lexer.Columns(line)
		return nil, count + 1, api.ErrGram
	}
	tree := plainTree(tokens)
	if len(tree) > 4096 {
		return nil, 1, api.ErrLarge
	}
	return tree, 0, api.OK
}

// plainLimit is the limit that is found passed at the last of the tokens, of which a line may begin.
func plainLimit(tokens []api.Token) (int, api.Errno) {
	last := tokens[len(tokens)-1]
	switch last.Text {
	case "(":
		if countOf(tokens, "(")-countOf(tokens, ")") > 100 {
			return last.Col, api.ErrLarge
		}
	case "]":
		begin := len(tokens) - 1
		for tokens[begin].Text != "[" {
			begin--
		}
		return tokens[begin].Col, matrixFault(tokens[begin+1 : len(tokens)-1])
	}
	return 0, api.OK
}

func countOf(tokens []api.Token, text string) int {
	count := 0
	for _, token := range tokens {
		if token.Text == text {
			count++
		}
	}
	return count
}

// matrixFault is that of a matrix of which this stands between its brackets.
func matrixFault(inside []api.Token) api.Errno {
	if countOf(inside, ":") == 1 {
		rows, tooMany := strconv.Atoi(digitsOf(inside[0]))
		cols, tooWide := strconv.Atoi(digitsOf(inside[2]))
		if tooMany != nil || tooWide != nil || rows > 64 || cols > 64 {
			return api.ErrLarge
		}
		return api.OK
	}
	rows := cutAt(inside, ";")
	for _, row := range rows {
		if len(row)-countOf(row, "-") != len(rows[0])-countOf(rows[0], "-") {
			return api.ErrFit
		}
	}
	if len(rows) > 64 || len(rows[0])-countOf(rows[0], "-") > 64 {
		return api.ErrLarge
	}
	return api.OK
}

// digitsOf are a number's digits without those that it need not have.
func digitsOf(number api.Token) string {
	digits := strings.TrimLeft(strings.ReplaceAll(number.Text, "_", ""), "0")
	if digits == "" {
		return "0"
	}
	return digits
}

// cutAt cuts tokens at each mark that stands in no bracket.
func cutAt(tokens []api.Token, mark string) [][]api.Token {
	at := lastOutside(tokens, func(i int) bool { return tokens[i].Text == mark })
	if at < 0 {
		return [][]api.Token{tokens}
	}
	return append(cutAt(tokens[:at], mark), tokens[at+1:])
}

// lastOutside is the last place, in no bracket, of a token that is asked for, and -1 if there is none.
func lastOutside(tokens []api.Token, asked func(i int) bool) int {
	found, level := -1, 0
	for i, token := range tokens {
		switch {
		case strings.Contains("([{", token.Text):
			level++
		case strings.Contains(")]}", token.Text):
			level--
		case level == 0 && asked(i):
			found = i
		}
	}
	return found
}

// plainTree is the tree of the tokens of a line.
func plainTree(tokens []api.Token) []api.Node {
	switch {
	case len(tokens) == 0:
		return nodeOf(api.OpNothing, "")
	case tokens[0].Text == "let":
		return nodeOf(api.OpLet, tokens[1].Text, plainPart(tokens[3:]))
	case len(tokens) == 1:
		return nodeOf(api.OpDo, tokens[0].Text)
	}
	return nodeOf(api.OpDo, tokens[0].Text, plainParts(tokens[1:])...)
}

func plainParts(tokens []api.Token) [][]api.Node {
	var all [][]api.Node
	for _, part := range cutAt(tokens, ",") {
		all = append(all, plainPart(part))
	}
	return all
}

// plainPart is the tree of an expr: it is cut at the last of its loosest operators.
func plainPart(tokens []api.Token) []api.Node {
	last := len(tokens) - 1
	isBetween := func(i int) bool { // a sign that stands behind something that may be added to
		if i == 0 || !strings.Contains("+-", tokens[i].Text) {
			return false
		}
		before := tokens[i-1]
		return before.Kind != api.Mark || strings.Contains(")]}'", before.Text)
	}
	if at := lastOutside(tokens, isBetween); at >= 0 {
		op := map[string]int{"+": api.OpAdd, "-": api.OpSub}[tokens[at].Text]
		return nodeOf(op, "", plainPart(tokens[:at]), plainPart(tokens[at+1:]))
	}
	if at := lastOutside(tokens, func(i int) bool { return tokens[i].Text == "*" }); at >= 0 {
		return nodeOf(api.OpMul, "", plainPart(tokens[:at]), plainPart(tokens[at+1:]))
	}
	switch {
	case tokens[0].Text == "-":
		return nodeOf(api.OpNeg, "", plainPart(tokens[1:]))
	case last > 1 && tokens[last-1].Text == "^":
		return nodeOf(api.OpPow, digitsOf(tokens[last]), plainPart(tokens[:last-1]))
	case tokens[last].Text == "'":
		return nodeOf(api.OpTurn, "", plainPart(tokens[:last]))
	}
	return plainAtom(tokens)
}

func plainAtom(tokens []api.Token) []api.Node {
	first, last := tokens[0], len(tokens)-1
	switch {
	case first.Kind == api.Number:
		return nodeOf(api.OpNumber, digitsOf(first))
	case first.Text == "(":
		return plainPart(tokens[1:last])
	case first.Text == "[":
		return nodeOf(api.OpMatrix, matrixText(tokens[1:last]))
	case first.Text == "{" && last == 1:
		return nodeOf(api.OpComplex, "{}")
	case first.Text == "{":
		return nodeOf(api.OpComplex, "{"+rowsText(tokens[1:last], ",")+"}")
	case last > 0:
		return nodeOf(api.OpCall, first.Text, plainParts(tokens[2:last])...)
	}
	return nodeOf(api.OpName, first.Text)
}

// matrixText is the text of the matrix of which this stands between its brackets.
func matrixText(inside []api.Token) string {
	if countOf(inside, ":") == 0 {
		return "[" + rowsText(inside, ";") + "]"
	}
	rows, _ := strconv.Atoi(digitsOf(inside[0]))
	cols, _ := strconv.Atoi(digitsOf(inside[2]))
	if rows*cols == 0 {
		return "[" + digitsOf(inside[0]) + ":" + digitsOf(inside[2]) + "]"
	}
	row := strings.Join(slices.Repeat([]string{"0"}, cols), " ")
	return "[" + strings.Join(slices.Repeat([]string{row}, rows), "; ") + "]"
}

// rowsText writes rows of numbers with a mark between the rows.
func rowsText(inside []api.Token, mark string) string {
	var rows []string
	for _, row := range cutAt(inside, mark) {
		var numbers []string
		for i, token := range row {
			if token.Kind != api.Number {
				continue
			}
			digits := digitsOf(token)
			if i > 0 && row[i-1].Text == "-" && digits != "0" {
				digits = "-" + digits
			}
			numbers = append(numbers, digits)
		}
		rows = append(rows, strings.Join(numbers, " "))
	}
	return strings.Join(rows, mark+" ")
}

// nodeOf is the list of a node and of its parts' lists ahead of it.
func nodeOf(op int, text string, parts ...[]api.Node) []api.Node {
	var list []api.Node
	last := api.Node{Op: op, Text: text}
	for _, part := range parts {
		begin := len(list)
		for _, n := range part {
			var kids []int
			for _, kid := range n.Kids {
				kids = append(kids, kid+begin)
			}
			list = append(list, api.Node{Op: n.Op, Text: n.Text, Kids: kids})
		}
		last.Kids = append(last.Kids, len(list)-1)
	}
	return append(list, last)
}

// plainPrint is the line of a tree, by P26.2's words.
func plainPrint(tree []api.Node) string {
	return plainNode(tree, len(tree)-1)
}

func plainNode(tree []api.Node, place int) string {
	n := tree[place]
	part := func(which int, inBrackets ...int) string {
		kid := n.Kids[which]
		text := plainNode(tree, kid)
		if slices.Contains(inBrackets, tree[kid].Op) {
			return "(" + text + ")"
		}
		return text
	}
	list := func() string { // written only where it is asked for: a part that is written twice has its own parts written four times
		var parts []string
		for i := range n.Kids {
			parts = append(parts, part(i))
		}
		return strings.Join(parts, ", ")
	}
	switch n.Op {
	case api.OpLet:
		return "let " + n.Text + " = " + list()
	case api.OpDo:
		return strings.TrimSuffix(n.Text+" "+list(), " ")
	case api.OpAdd:
		return part(0) + " + " + part(1, api.OpAdd, api.OpSub)
	case api.OpSub:
		return part(0) + " - " + part(1, api.OpAdd, api.OpSub)
	case api.OpMul:
		return part(0, api.OpAdd, api.OpSub) + "*" + part(1, api.OpAdd, api.OpSub, api.OpMul)
	case api.OpNeg:
		return "-" + part(0, api.OpAdd, api.OpSub, api.OpMul)
	case api.OpTurn:
		return part(0, api.OpAdd, api.OpSub, api.OpMul, api.OpNeg, api.OpPow) + "'"
	case api.OpPow:
		return part(0, api.OpAdd, api.OpSub, api.OpMul, api.OpNeg, api.OpPow) + "^" + n.Text
	case api.OpCall:
		return n.Text + "(" + list() + ")"
	}
	return n.Text
}

// deepest is how many brackets ( are open at one time in a line.
func deepest(line string) int {
	open, most := 0, 0
	for _, sign := range line {
		switch sign {
		case '(':
			open++
		case ')':
			open--
		}
		most = max(most, open)
	}
	return most
}
