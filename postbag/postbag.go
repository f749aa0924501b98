// Package postbag: mail that is taken in, kept and handed on: see DOC.md.
package postbag

import (
	"postbag/address"
	"postbag/api"
	"postbag/bag"
	"postbag/delivery"
	"postbag/session"
	"postbag/settings"
	"postbag/sixbits"
)

// Post takes mail in, keeps it, and hands it on.
type Post struct {
	settings api.Config
	bag      *bag.Bag
	// sessions are all connections since Open, by their numbers; one that is closed is nil.
	sessions []*session.Session
	// talk is that with the other host; it is nil while no mail is being handed on.
	talk *delivery.Talk
}

// What the other host may answer.
const (
	leastCode = 200
	mostCode  = 599
)

// Address reads an address (P3).
func Address(s string) (string, string, bool) { return address.Read(s) }

// Base64 reads bytes that were written in letters (P3).
func Base64(s string) (string, bool) { return sixbits.Read(s) }

// Check tells whether settings may be (P4).
func Check(c api.Config) api.Errno {
	if !settings.MayBe(c) {
		return api.ErrConfig
	}
	return api.OK
}

// Open makes a post of what was kept (P5).
func Open(c api.Config, kept string) (*Post, api.Errno) {
	if errno := Check(c); errno != api.OK {
		return nil, errno
	}
	return &Post{settings: settings.Copy(c), bag: bag.Read(kept)}, api.OK
}

// Kept tells what is kept (P6).
func (p *Post) Kept() (string, api.Errno) {
	if p == nil {
		return "", api.ErrNil
	}
	return p.bag.Kept(), api.OK
}

// Queue tells the mail that is to be handed on (P6).
func (p *Post) Queue() ([]api.Mail, api.Errno) {
	if p == nil {
		return nil, api.ErrNil
	}
	return p.bag.Queue(), api.OK
}

// Connect begins a connection (P7).
func (p *Post) Connect(addr int) (int, string, api.Errno) {
	if p == nil {
		return 0, "", api.ErrNil
	}
	if addr < 0 || addr > api.MaxAddr || len(p.sessions) == api.MaxConns {
		return 0, "", api.ErrArg
	}
	conn := len(p.sessions)
	s, greeting := session.Begin(&p.settings, p.bag, addr)
	p.sessions = append(p.sessions, s)
	return conn, greeting, api.OK
}

// Receive takes what comes on a connection (P7).
func (p *Post) Receive(conn int, b string) (string, api.Errno) {
	if p == nil {
		return "", api.ErrNil
	}
	if !p.isOpen(conn) {
		return "", api.ErrClosed
	}
	defer p.forgetIfOver(conn)
	return p.sessions[conn].Hear(b), api.OK
}

// Close ends a connection (P7).
func (p *Post) Close(conn int) api.Errno {
	if p == nil {
		return api.ErrNil
	}
	if !p.isOpen(conn) {
		return api.ErrClosed
	}
	p.sessions[conn] = nil
	return api.OK
}

func (p *Post) isOpen(conn int) bool {
	return 0 <= conn && conn < len(p.sessions) && p.sessions[conn] != nil
}

func (p *Post) forgetIfOver(conn int) {
	if p.sessions[conn].IsOver() {
		p.sessions[conn] = nil
	}
}

// Tick tells the time (P11).
func (p *Post) Tick(now int) api.Errno {
	if p == nil {
		return api.ErrNil
	}
	if now < p.bag.Time() || now > api.MaxTime {
		return api.ErrArg
	}
	if p.talk != nil {
		return api.ErrBusy
	}
	p.bag.Tick(now, p.settings.Life)
	return api.OK
}

// Dial begins to hand a mail on (P12).
func (p *Post) Dial() (int, api.Errno) {
	if p == nil {
		return 0, api.ErrNil
	}
	if p.talk != nil {
		return 0, api.ErrBusy
	}
	mail, ok := p.bag.LongestDue()
	if !ok {
		return 0, api.ErrIdle
	}
	p.talk = delivery.Begin(&p.settings, p.bag, mail)
	return mail.ID, api.OK
}

// Answer takes an answer of the other host, and tells what to say next (P12).
func (p *Post) Answer(code int) (string, api.Errno) {
	if p == nil {
		return "", api.ErrNil
	}
	if p.talk == nil {
		return "", api.ErrIdle
	}
	if code < leastCode || code > mostCode {
		return "", api.ErrArg
	}
	defer p.forgetTalkIfOver()
	return p.talk.Hear(code), api.OK
}

// Hang ends what is being handed on (P12).
func (p *Post) Hang() api.Errno {
	if p == nil {
		return api.ErrNil
	}
	if p.talk == nil {
		return api.ErrIdle
	}
	defer p.forgetTalkIfOver()
	p.talk.End()
	return api.OK
}

func (p *Post) forgetTalkIfOver() {
	if p.talk.IsOver() {
		p.talk = nil
	}
}
