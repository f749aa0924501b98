package postbag_test

import (
	"regexp"

	"postbag/api"
)

// wantedHanding hands mail on a second way: it holds all that happened, and tells each talk anew from its beginning.
type wantedHanding struct {
	time                int
	openTime, openMails int
	ends                []wantedEnd
	busy                int   // the ID, or 0
	codes               []int // of the talk that there is
}

// wantedEnd is a talk that left recipients there.
type wantedEnd struct {
	id, time int
}

func (p *wantedPost) tick(now int) api.Errno {
	h := &p.handing
	if now < h.time || now > 1000000000 {
		return api.ErrArg
	}
	if h.busy != 0 {
		return api.ErrBusy
	}
	h.time = now
	for id, m := range wantRead(p.kept).mails {
		if there := m.there(); len(there) > 0 && m.Time+p.config.Life <= now {
			p.kept += record(failedRecord(now, id+1, there...))
		}
	}
	return api.OK
}

// there gives the places of those who have not left.
func (m *wantedMail) there() []int {
	var places []int
	for place := range m.To {
		if !m.left[place] {
			places = append(places, place)
		}
	}
	return places
}

// due goes through all that was ever put off: the last time counts.
func (p *wantedPost) due(m *wantedMail) int {
	due := m.Time
	if m.ID <= p.handing.openMails {
		due = p.handing.openTime
	}
	waits := p.config.Waits
	for _, end := range p.handing.ends {
		if end.id == m.ID {
			due = end.time + waits[0]
			if len(waits) > 1 {
				waits = waits[1:]
			}
		}
	}
	return due
}

func (p *wantedPost) dial() (int, api.Errno) {
	h := &p.handing
	if h.busy != 0 {
		return 0, api.ErrBusy
	}
	first, since := 0, h.time+1
	for _, m := range wantRead(p.kept).mails {
		if due := p.due(m); len(m.there()) > 0 && due < since {
			first, since = m.ID, due
		}
	}
	if first == 0 {
		return 0, api.ErrIdle
	}
	h.busy, h.codes = first, nil
	return first, api.OK
}

func (p *wantedPost) answer(code int) (string, api.Errno) {
	h := &p.handing
	if h.busy == 0 {
		return "", api.ErrIdle
	}
	if code < 200 || code >= 600 {
		return "", api.ErrArg
	}
	h.codes = append(h.codes, code)
	talk := p.script()
	if talk.over {
		p.end(talk)
	}
	return talk.last, api.OK
}

func (p *wantedPost) hang() api.Errno {
	if p.handing.busy == 0 {
		return api.ErrIdle
	}
	p.end(p.script())
	return api.OK
}

func (p *wantedPost) end(talk wantedScript) {
	h := &p.handing
	if len(talk.gone) > 0 {
		p.kept += record(goneRecord(h.busy, talk.gone...))
	}
	if len(talk.failed) > 0 {
		p.kept += record(failedRecord(h.time, h.busy, talk.failed...))
	}
	if len(wantRead(p.kept).mails[h.busy-1].there()) > 0 {
		h.ends = append(h.ends, wantedEnd{id: h.busy, time: h.time})
	}
	h.busy, h.codes = 0, nil
}

// wantedScript is a talk up to where the answers end: what was said last, and what came of it.
type wantedScript struct {
	last         string
	gone, failed []int
	over         bool
}

var (
	firstDots = regexp.MustCompile(`(\A|\r\n)\.`)
	noAnswer  = new(int)
)

// script tells the talk in one piece; it stops by a panic where there is no answer to what is said.
func (p *wantedPost) script() (s wantedScript) {
	defer func() {
		if stop := recover(); stop != nil && stop != any(noAnswer) {
			panic(stop)
		}
	}()
	codes := p.handing.codes
	say := func(text string) int {
		s.last = text + "\r\n"
		if len(codes) == 0 {
			panic(noAnswer)
		}
		code := codes[0]
		codes = codes[1:]
		return code
	}
	m := wantRead(p.kept).mails[p.handing.busy-1]
	s.last = ""
	if len(codes) == 0 {
		return s
	}
	greeting := codes[0]
	codes = codes[1:]
	p.tell(&s, m, greeting, say)
	say("QUIT")
	s.last, s.over = "", true
	return s
}

func (p *wantedPost) tell(s *wantedScript, m *wantedMail, greeting int, say func(string) int) {
	if greeting >= 300 || say("EHLO "+p.config.Host) >= 300 {
		return
	}
	there := m.there()
	if code := say("MAIL FROM:<" + m.From + ">"); code >= 300 {
		if code >= 500 {
			s.failed = there
		}
		return
	}
	var refused [256]bool
	var willing []int
	for _, place := range there {
		code := say("RCPT TO:<" + m.To[place] + ">")
		if code < 300 {
			willing = append(willing, place)
		}
		refused[place] = code >= 500
		s.failed = placesOf(refused)
	}
	if willing == nil {
		return
	}
	code := say("DATA")
	if 300 <= code && code < 400 {
		code = say(firstDots.ReplaceAllString(m.Body, "$1..") + "\r\n.")
		if code < 300 {
			s.gone = willing
		}
	}
	for _, place := range willing {
		refused[place] = code >= 500
	}
	s.failed = placesOf(refused)
}

func placesOf(marked [256]bool) []int {
	var places []int
	for place, is := range marked {
		if is {
			places = append(places, place)
		}
	}
	return places
}
