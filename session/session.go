// Package session: what is said on a connection, and the mail that comes in on it.
package session

import (
	"strings"

	"postbag/api"
	"postbag/bag"
	"postbag/command"
	"postbag/lines"
	"postbag/settings"
)

// mostTold is how many lines the longest answer has.
const mostTold = 3

// Session is a connection, from its greeting to its end.
type Session struct {
	settings *api.Config
	bag      *bag.Bag
	cutter   lines.Cutter
	// told has room for one answer: it is emptied behind each line that comes.
	told        chan string
	isInNets    bool
	isGreeted   bool
	isKnown     bool
	isOver      bool
	transaction *transaction
}

// Begin begins a connection from addr, and gives its greeting.
func Begin(c *api.Config, b *bag.Bag, addr int) (*Session, string) {
	s := &Session{settings: c, bag: b, told: make(chan string, mostTold), isInNets: settings.HasAddr(*c, addr)}
	var said strings.Builder
	s.tell("220 " + c.Host)
	s.takeTold(&said)
	return s, said.String()
}

// Hear takes what comes, in any pieces, and gives what is said to it.
func (s *Session) Hear(piece string) string {
	var said strings.Builder
	for i := range len(piece) {
		if s.isOver {
			break
		}
		if line, ok := s.cutter.Take(piece[i]); ok {
			s.hearLine(line, &said)
		}
	}
	return said.String()
}

// IsOver tells whether the other side has ended the connection.
func (s *Session) IsOver() bool {
	return s.isOver
}

func (s *Session) hearLine(line lines.Line, said *strings.Builder) {
	defer s.takeTold(said)
	if s.transaction.hasBody() {
		s.hearBody(line)
		return
	}
	s.obey(command.Read(line))
}

func (s *Session) tell(line string) {
	s.told <- line + lines.End
}

func (s *Session) takeTold(said *strings.Builder) {
	for {
		select {
		case line := <-s.told:
			said.WriteString(line)
		default:
			return
		}
	}
}

func (s *Session) end() {
	s.isOver = true
}

func (s *Session) endTransaction() {
	s.transaction = nil
}
