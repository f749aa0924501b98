package session

import (
	"strconv"
	"strings"

	"postbag/lines"
)

// dot ends a body where it is a whole line; ahead of a line it stands for nothing, so that a body may have such lines.
const dot = "."

// transaction is a mail that is coming in; it has a body from DATA on.
type transaction struct {
	from string
	to   []string
	body *body
}

func (t *transaction) hasRecipients() bool {
	return t != nil && len(t.to) > 0
}

func (t *transaction) hasBody() bool {
	return t != nil && t.body != nil
}

// body is what has come of one.
type body struct {
	text     []byte
	hasLines bool
	isBad    bool
}

func (s *Session) hearBody(line lines.Line) {
	if line.Text == dot {
		s.endBody()
		return
	}
	s.transaction.body.add(line, s.settings.Size)
}

func (s *Session) endBody() {
	defer s.endTransaction()
	t := s.transaction
	if t.body.isBad {
		s.tell(saysWhat)
		return
	}
	if len(t.body.text) > s.settings.Size {
		s.tell(saysTooLong)
		return
	}
	id, isKept := s.bag.Keep(t.from, t.to, string(t.body.text), s.settings.Room)
	if !isKept {
		s.tell("452 room")
		return
	}
	s.tell("250 kept " + strconv.Itoa(id))
}

// add leaves out what comes behind a body that is too long already, which it stays: so no more is held than may be kept.
func (b *body) add(line lines.Line, size int) {
	b.isBad = b.isBad || line.IsBad
	if len(b.text) > size {
		return
	}
	if b.hasLines {
		b.text = append(b.text, lines.End...)
	}
	b.hasLines = true
	b.text = append(b.text, strings.TrimPrefix(line.Text, dot)...)
}
