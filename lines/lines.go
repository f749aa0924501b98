// Package lines: what comes on a connection, cut into lines.
package lines

import (
	"bytes"

	"postbag/api"
)

// End stands behind each line.
const End = "\r\n"

// Line is one that has come whole. A bad one stands for nothing: it has no text.
type Line struct {
	Text  string
	IsBad bool
}

// Cutter holds what has come of a line whose end has not.
type Cutter struct {
	waiting []byte
}

// Take takes one byte more, and gives the line, if it ends there.
func (c *Cutter) Take(b byte) (Line, bool) {
	c.waiting = append(c.waiting, b)
	text, isWhole := bytes.CutSuffix(c.waiting, []byte(End))
	if !isWhole {
		c.shorten()
		return Line{}, false
	}
	line := read(text)
	c.waiting = c.waiting[:0]
	return line, true
}

// shorten leaves of a line that is too long just enough to tell that it is, and the last byte, which may be the CR of its end: so what waits has a bound, whatever comes.
func (c *Cutter) shorten() {
	const most = api.MaxLine + 2
	if len(c.waiting) > most {
		c.waiting[most-1] = c.waiting[most]
		c.waiting = c.waiting[:most]
	}
}

func read(text []byte) Line {
	if len(text) > api.MaxLine || bytes.ContainsFunc(text, isBad) {
		return Line{IsBad: true}
	}
	return Line{Text: string(text)}
}

// isBad sees bytes that are no letters of UTF-8 as one that is above 126, too.
func isBad(r rune) bool {
	return r == 0 || r == '\n' || r == '\r' || r > 126
}
