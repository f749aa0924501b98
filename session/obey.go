package session

import (
	"slices"
	"strconv"

	"postbag/command"
	"postbag/settings"
)

const (
	saysOK      = "250 ok"
	saysWhat    = "500 what"
	saysHow     = "501 how"
	saysFirst   = "503 first"
	saysTooLong = "552 size"
)

func (s *Session) obey(c command.Command) {
	if !s.isReadyFor(c.Verb) {
		s.tell(saysFirst)
		return
	}
	switch c.Verb {
	case command.Unknown:
		s.tell(saysWhat)
	case command.Wrong:
		s.tell(saysHow)
	case command.Quit:
		s.quit()
	case command.Noop:
		s.tell(saysOK)
	case command.Rset:
		s.reset()
	case command.Helo:
		s.greet()
	case command.Ehlo:
		s.greetWithMore()
	case command.Auth:
		s.know(c.Shown)
	case command.Mail:
		s.beginTransaction(c.Name, c.Size)
	case command.Rcpt:
		s.addRecipient(c.Name)
	case command.Data:
		s.beginBody()
	}
}

// isReadyFor asks what a command needs, and then what that needs in turn.
func (s *Session) isReadyFor(verb command.Verb) bool {
	switch verb {
	case command.Data:
		if !s.transaction.hasRecipients() {
			return false
		}
		fallthrough
	case command.Rcpt:
		if s.transaction == nil {
			return false
		}
		fallthrough
	case command.Auth, command.Mail:
		return s.isGreeted
	}
	return true
}

func (s *Session) quit() {
	defer s.end()
	s.tell("221 bye")
}

func (s *Session) reset() {
	defer s.endTransaction()
	s.tell(saysOK)
}

func (s *Session) greet() {
	defer s.endTransaction()
	s.isGreeted = true
	s.tell("250 " + s.settings.Host)
}

func (s *Session) greetWithMore() {
	defer s.endTransaction()
	s.isGreeted = true
	s.tell("250-" + s.settings.Host)
	s.tell("250-SIZE " + strconv.Itoa(s.settings.Size))
	s.tell("250 AUTH PLAIN")
}

func (s *Session) know(shown string) {
	switch {
	case s.transaction != nil || s.isKnown:
		s.tell(saysFirst)
	case settings.HasUser(*s.settings, shown):
		s.isKnown = true
		s.tell("235 ok")
	default:
		s.tell("535 no")
	}
}

func (s *Session) beginTransaction(from string, size int) {
	switch {
	case s.transaction != nil:
		s.tell(saysFirst)
	case size > s.settings.Size:
		s.tell(saysTooLong)
	default:
		s.transaction = &transaction{from: from}
		s.tell(saysOK)
	}
}

func (s *Session) addRecipient(name string) {
	t := s.transaction
	switch {
	case slices.Contains(t.to, name):
		s.tell(saysOK)
	case len(t.to) == s.settings.To:
		s.tell("452 many")
	case !s.maySendTo(name):
		s.tell("550 no")
	default:
		t.to = append(t.to, name)
		s.tell(saysOK)
	}
}

func (s *Session) maySendTo(name string) bool {
	return s.isInNets || s.isKnown || settings.HasDomainOf(*s.settings, name)
}

func (s *Session) beginBody() {
	s.transaction.body = &body{}
	s.tell("354 go")
}
