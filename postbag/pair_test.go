package postbag_test

import (
	"testing"

	"postbag/api"
	"postbag/postbag"
)

// pair is a post, and what the tests want of it: each call goes to both, and all that can be seen then is held against each other.
type pair struct {
	t    testing.TB
	post *postbag.Post
	want *wantedPost
}

func pairOf(t testing.TB, c api.Config, kept string) *pair {
	t.Helper()
	return &pair{t: t, post: openWith(t, c, kept), want: wantedOpen(c, kept)}
}

// again opens a pair with what this one keeps.
func (p *pair) again(c api.Config) *pair {
	p.t.Helper()
	return pairOf(p.t, c, keptOf(p.t, p.post))
}

func (p *pair) holds() {
	p.t.Helper()
	if got := keptOf(p.t, p.post); got != p.want.kept {
		p.t.Fatalf("Kept = %x, want %x", got, p.want.kept)
	}
	if got, want := queueOf(p.t, p.post), wantRead(p.want.kept).queue(); !sameMails(got, want) {
		p.t.Fatalf("Queue = %v, want %v", got, want)
	}
}

func (p *pair) connect(addr int) {
	p.t.Helper()
	conn, greeting, errno := p.post.Connect(addr)
	if wantConn, wantGreeting, wantErrno := p.want.connect(addr); conn != wantConn || greeting != wantGreeting || errno != wantErrno {
		p.t.Fatalf("P7: Connect(%d) = %d, %q, %d, want %d, %q, %d", addr, conn, greeting, errno, wantConn, wantGreeting, wantErrno)
	}
	p.holds()
}

func (p *pair) receive(conn int, piece string) string {
	p.t.Helper()
	said, errno := p.post.Receive(conn, piece)
	if wantSaid, wantErrno := p.want.receive(conn, piece); said != wantSaid || errno != wantErrno {
		p.t.Fatalf("P7: Receive(%d, %q) = %q, %d, want %q, %d", conn, piece, said, errno, wantSaid, wantErrno)
	}
	p.holds()
	return said
}

func (p *pair) close(conn int) {
	p.t.Helper()
	if got, want := p.post.Close(conn), p.want.close(conn); got != want {
		p.t.Fatalf("P7: Close(%d) = %d, want %d", conn, got, want)
	}
	p.holds()
}

func (p *pair) tick(now int) api.Errno {
	p.t.Helper()
	got := p.post.Tick(now)
	if want := p.want.tick(now); got != want {
		p.t.Fatalf("P11: Tick(%d) = %d, want %d", now, got, want)
	}
	p.holds()
	return got
}

func (p *pair) dial() (int, api.Errno) {
	p.t.Helper()
	id, errno := p.post.Dial()
	if wantID, wantErrno := p.want.dial(); id != wantID || errno != wantErrno {
		p.t.Fatalf("P12: Dial = %d, %d, want %d, %d", id, errno, wantID, wantErrno)
	}
	p.holds()
	return id, errno
}

func (p *pair) answer(code int) (string, api.Errno) {
	p.t.Helper()
	behind := p.want.handing.codes
	said, errno := p.post.Answer(code)
	if wantSaid, wantErrno := p.want.answer(code); said != wantSaid || errno != wantErrno {
		p.t.Fatalf("P12: Answer(%d) behind %v = %q, %d, want %q, %d", code, behind, said, errno, wantSaid, wantErrno)
	}
	p.holds()
	return said, errno
}

func (p *pair) hang() api.Errno {
	p.t.Helper()
	got := p.post.Hang()
	if want := p.want.hang(); got != want {
		p.t.Fatalf("P12: Hang = %d, want %d", got, want)
	}
	p.holds()
	return got
}

// dueNow tells which mails are due, in their order, by a failure of each.
func (p *pair) dueNow() []int {
	p.t.Helper()
	var ids []int
	for {
		id, errno := p.dial()
		if errno != api.OK {
			return ids
		}
		ids = append(ids, id)
		p.hang()
	}
}
