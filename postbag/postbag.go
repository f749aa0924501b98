// Package postbag: mail that is taken in, kept and handed on: see DOC.md.
package postbag

import (
	"postbag/address"
	"postbag/api"
	"postbag/bag"
	"postbag/settings"
	"postbag/sixbits"
)

// Post takes mail in, keeps it, and hands it on.
type Post struct {
	bag *bag.Bag
}

// Address reads an address (P3).
func Address(s string) (string, string, bool) { return address.Read(s) }

// Base64 reads bytes that were written in letters (P3).
func Base64(s string) (string, bool) { return sixbits.Read(s) }

// Check tells whether settings may be (P4).
func Check(c api.Config) api.Errno {
	if !settings.MayBe(c) {
		return api.ErrConfig
	}
	return api.OK
}

// Open makes a post of what was kept (P5).
func Open(c api.Config, kept string) (*Post, api.Errno) {
	if errno := Check(c); errno != api.OK {
		return nil, errno
	}
	return &Post{bag: bag.Read(kept)}, api.OK
}

// Kept tells what is kept (P6).
func (p *Post) Kept() (string, api.Errno) {
	if p == nil {
		return "", api.ErrNil
	}
	return p.bag.Kept(), api.OK
}

// Queue tells the mail that is to be handed on (P6).
func (p *Post) Queue() ([]api.Mail, api.Errno) {
	if p == nil {
		return nil, api.ErrNil
	}
	return p.bag.Queue(), api.OK
}

// Connect begins a connection (P7).
func (p *Post) Connect(addr int) (int, string, api.Errno) { return 0, "", api.OK }

// Receive takes what comes on a connection (P7).
func (p *Post) Receive(conn int, b string) (string, api.Errno) { return "", api.OK }

// Close ends a connection (P7).
func (p *Post) Close(conn int) api.Errno { return api.OK }

// Tick tells the time (P11).
func (p *Post) Tick(now int) api.Errno { return api.OK }

// Dial begins to hand a mail on (P12).
func (p *Post) Dial() (int, api.Errno) { return 0, api.OK }

// Answer takes an answer of the other host, and tells what to say next (P12).
func (p *Post) Answer(code int) (string, api.Errno) { return "", api.OK }

// Hang ends what is being handed on (P12).
func (p *Post) Hang() api.Errno { return api.OK }
