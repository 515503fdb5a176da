package lexer

import (
	"strings"

	"trellis/api"
)

// cutter goes through a line, a character at a time. A run is open from its first character to the first that does not belong to it; nothing is said of it ahead of its end, but it is told ahead of what ends it.
type cutter struct {
	line    string
	list    []api.Token
	col     int  // of the character that is looked at
	open    int  // the kind of the open run's token, 0 if none is open
	begin   int  // the place at which that run begins
	runCol  int  // its column
	comment bool // a comment has begun
	fault   int  // the column of the first thing wrong
}

// take looks at the character r at that place of the line.
func (c *cutter) take(place int, r rune) api.Errno {
	k := kindOf(c.line, place, r)
	if c.goesOn(k) {
		return api.OK
	}
	if e := c.end(place); e != api.OK {
		return e
	}
	switch {
	case k == bad:
		return c.wrong(c.col, api.ErrUtf8)
	case c.comment:
		return api.OK
	}
	return c.start(place, r, k)
}

// start is for a character at which no token goes on.
func (c *cutter) start(place int, r rune, k kind) api.Errno {
	switch k {
	case strange:
		return c.wrong(c.col, api.ErrRune)
	case sharp:
		c.comment = true
	case digit:
		c.open, c.begin, c.runCol = api.Number, place, c.col
	case low, letter:
		c.open, c.begin, c.runCol = api.Name, place, c.col
	case mark:
		c.list = append(c.list, api.Token{Kind: api.Mark, Text: markText(r), Col: c.col})
	}
	return api.OK
}

// goesOn tells whether a character of the kind k belongs to the open run.
func (c *cutter) goesOn(k kind) bool {
	switch c.open {
	case api.Number:
		return k == digit || k == low
	case api.Name:
		return k == digit || k == low || k == letter
	}
	return false
}

// end closes the open run, if one is, ahead of that place of the line.
func (c *cutter) end(place int) api.Errno {
	if c.open == 0 {
		return api.OK
	}
	run := c.line[c.begin:place]
	switch {
	case c.open == api.Number && (strings.HasSuffix(run, "_") || strings.Contains(run, "__")):
		return c.wrong(c.runCol, api.ErrText)
	case c.open == api.Name && len(run) > api.MaxName:
		return c.wrong(c.runCol, api.ErrLong)
	}
	c.list = append(c.list, api.Token{Kind: c.open, Text: run, Col: c.runCol})
	c.open = 0
	return api.OK
}

func (c *cutter) wrong(col int, e api.Errno) api.Errno {
	c.fault = col
	return e
}
