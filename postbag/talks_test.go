package postbag_test

import (
	"math/rand"
	"slices"
	"strconv"
	"strings"
	"testing"

	"postbag/api"
	"postbag/postbag"
)

// wholeTalks have all that a connection can be told, and what makes cutting lines hard.
func wholeTalks() []string {
	long := strings.Repeat("x", api.MaxLine)
	return []string{
		crlf("EHLO x|MAIL FROM:<>|RCPT TO:<b@a.org>|DATA|..a|.|RSET|QUIT|NOOP"),
		crlf("HELO x|AUTH PLAIN AHUAdw==|MAIL FROM:<A@B> SIZE=10|RCPT TO:<x@x>|DATA||..||.|NOOP"),
		"NOOP\r\r\nNOOP\n\r\n\r\n\n\r\nNOOP\r\nNO\rOP\r\n\r",
		"HELO x\r\nMAIL FROM:<>\r\nRCPT TO:<b@a.org>\r\nDATA\r\n.\r\r\n.\n\r\n\r.\r\n.\r\nNOOP\r\nQUI",
		long + "\r\n" + long + "y\r\n" + long + "\r\r\n" + long + "y\r\r\n" + long + "\n\r\nNOOP\r\n",
		crlf("HELO x|MAIL FROM:<>|RCPT TO:<b@a.org>|DATA|"+long+"|"+long+"|"+long+"|.|QUIT") + "\r\n\r\n",
		crlf("HELO x|MAIL FROM:<>|RCPT TO:<b@a.org>|DATA|" + long + "z|" + long + "|.|MAIL FROM:<>|RCPT TO:<b@a.org>|DATA|." + long[1:] + "|.|QUIT"),
	}
}

// hears gives all that is said to pieces, and what is kept then. A connection that a QUIT closed hears no more.
func hears(t testing.TB, pieces []string) (string, string) {
	t.Helper()
	p := openWith(t, fullConfig(), "")
	connect(t, p, 1)
	all := ""
	for i, piece := range pieces {
		said, errno := p.Receive(0, piece)
		if errno == api.ErrClosed && strings.HasSuffix(all, "221 bye\r\n") {
			break
		}
		if errno != api.OK {
			t.Errorf("P15: piece %d of %q: %d", i, pieces, errno)
		}
		all += said
	}
	return all, keptOf(t, p)
}

func inPieces(s string, size int) []string {
	var pieces []string
	for len(s) > size {
		pieces = append(pieces, s[:size])
		s = s[size:]
	}
	return append(pieces, s)
}

func TestPieces(t *testing.T) {
	for _, talk := range wholeTalks() {
		said, kept := hears(t, []string{talk})
		want := wantedOpen(fullConfig(), "")
		want.connect(1)
		if wantSaid, _ := want.receive(0, talk); said != wantSaid || kept != want.kept {
			t.Errorf("P9: to %q is said %q, want %q; kept is %x, want %x", talk, said, wantSaid, kept, want.kept)
		}
		hold := func(pieces []string) {
			t.Helper()
			if gotSaid, gotKept := hears(t, pieces); gotSaid != said || gotKept != kept {
				t.Errorf("P15: to %q is said %q, in one piece %q; kept is %x, in one piece %x", pieces, gotSaid, said, gotKept, kept)
			}
		}
		for size := 1; size <= len(talk); size++ {
			hold(inPieces(talk, size))
			hold([]string{talk[:size], talk[size:]})
			hold([]string{"", talk[:size-1], "", talk[size-1 : size], "", talk[size:], ""})
		}
	}
}

// What is said to a line is said when its end comes, no sooner and no later.
func TestPiecesAreAnsweredAtOnce(t *testing.T) {
	for _, talk := range wholeTalks() {
		holdsUp(t, fullConfig(), "", 1, inPieces(talk, 1)...)
	}
}

// randomLine is mostly such as brings a talk forward.
func randomLine(r *rand.Rand) string {
	names := []string{"b@a.org", "b@A.ORG", "c@b.org", "x@x", "y@c", "", "x"}
	lines := []string{"HELO x", "EHLO y.z", "NOOP", "RSET", "DATA", "DATA", "DATA", ".", ".", ".", "..", ".x", "", "text", "more text", plain("\x00u\x00w"), plain("u\x00u\x00w"), plain("w\x00u\x00w"), "MAIL FROM:<> SIZE=300", "MAIL FROM:<> SIZE=301", "HELO", "RSET x", "\x00", "a\r", strings.Repeat("x", 99+r.Intn(3)), strings.Repeat("y", r.Intn(100))}
	if r.Intn(60) == 0 {
		return "QUIT"
	}
	switch r.Intn(4) {
	case 0:
		return "MAIL FROM:<" + names[r.Intn(len(names))] + ">"
	case 1:
		return "RCPT TO:<" + names[r.Intn(len(names))] + ">"
	}
	line := lines[r.Intn(len(lines))]
	switch r.Intn(8) {
	case 0:
		return strings.ToLower(line)
	case 1:
		at := r.Intn(len(line) + 1)
		return line[:at] + string([]byte{byte(r.Intn(256))}) + line[at:]
	}
	return line
}

func randomTalk(r *rand.Rand) string {
	talk := ""
	for range r.Intn(40) {
		if r.Intn(4) > 0 {
			talk += randomLine(r) + "\r\n"
			continue
		}
		to := []string{"b@a.org", "c@b.org", "x@x"}
		talk += crlf("MAIL FROM:<>|RCPT TO:<" + to[r.Intn(3)] + ">|RCPT TO:<" + to[r.Intn(3)] + ">|DATA|" + strings.Repeat("text|", r.Intn(20)) + ".")
	}
	if r.Intn(3) > 0 {
		talk = "HELO x\r\n" + talk
	}
	return talk
}

func randomConfig(r *rand.Rand) api.Config {
	c := fullConfig()
	c.Domains = c.Domains[:r.Intn(len(c.Domains)+1)]
	c.Nets = c.Nets[:r.Intn(len(c.Nets)+1)]
	c.Users = c.Users[:r.Intn(len(c.Users)+1)]
	c.To, c.Size, c.Room = 1+r.Intn(4), 1+r.Intn(400), r.Intn(5000)
	return c
}

// mayStand holds P13 by what was seen alone: where the connection came from, whether it was known, and what is kept then.
func mayStand(t testing.TB, c api.Config, p *postbag.Post, id string, addr int, known bool) {
	t.Helper()
	queue := queueOf(t, p)
	at := slices.IndexFunc(queue, func(m api.Mail) bool { return strconv.Itoa(m.ID) == id })
	if at < 0 {
		t.Fatalf("P10: mail %s is not in %v", id, queue)
	}
	m := queue[at]
	for _, name := range m.To {
		_, domain, _ := strings.Cut(name, "@")
		if !wantMaySend(c, addr, known, domain) {
			t.Errorf("P13: mail %v came on a connection from %d, known: %v, with %v", m, addr, known, c)
		}
	}
}

func TestTalksAtRandom(t *testing.T) {
	r := rand.New(rand.NewSource(3))
	kept := 0
	for range 3000 {
		c, past := randomConfig(r), randomKept(r)
		p, want := openWith(t, c, past), wantedOpen(c, past)
		var talks []string
		var addrs []int
		known := make([]bool, 5)
		for range 1 + r.Intn(4) {
			talks = append(talks, randomTalk(r))
			addrs = append(addrs, []int{1, 257, 10<<24 + 7, api.MaxAddr, 0}[r.Intn(5)])
			connect(t, p, addrs[len(addrs)-1])
			want.connect(addrs[len(addrs)-1])
		}
		for range 40 {
			conn := r.Intn(len(talks) + 1)
			if r.Intn(100) == 0 {
				if got, wanted := p.Close(conn), want.close(conn); got != wanted {
					t.Errorf("P7: Close(%d) = %d, want %d", conn, got, wanted)
				}
				continue
			}
			piece := "NOOP\r\n"
			if conn < len(talks) {
				size := min(len(talks[conn]), r.Intn(120))
				piece, talks[conn] = talks[conn][:size], talks[conn][size:]
			}
			said, errno := p.Receive(conn, piece)
			wantSaid, wantErrno := want.receive(conn, piece)
			if said != wantSaid || errno != wantErrno {
				t.Fatalf("Receive(%d, %q) = %q, %d, want %q, %d, behind %v", conn, piece, said, errno, wantSaid, wantErrno, want.conns)
			}
			for _, line := range strings.Split(said, "\r\n") {
				known[conn] = known[conn] || line == "235 ok"
				if id, ok := strings.CutPrefix(line, "250 kept "); ok {
					kept++
					mayStand(t, c, p, id, addrs[conn], known[conn])
				}
			}
		}
		if got := keptOf(t, p); got != want.kept {
			t.Fatalf("P10: Kept = %x, want %x", got, want.kept)
		}
		if got := queueOf(t, p); !sameMails(got, wantRead(want.kept).queue()) {
			t.Fatalf("P10: Queue = %v, want %v", got, wantRead(want.kept).queue())
		}
	}
	if kept < 3000 {
		t.Errorf("only %d mails came in", kept)
	}
}

// FuzzTalk hears any bytes, in two pieces and in one, behind beginnings from which much can be reached.
func FuzzTalk(f *testing.F) {
	for _, talk := range wholeTalks() {
		f.Add(talk, 7)
	}
	f.Add(plain("\x00u\x00w")+"\r\nMAIL FROM:<> SIZE=1\r\n", 3)
	f.Add("RCPT TO:<b@a.org>\r\nDATA\r\n", 12)
	f.Fuzz(func(t *testing.T, talk string, cut int) {
		at := min(max(cut, 0), len(talk))
		for _, begin := range []string{"", "HELO x\r\n", crlf("HELO x|MAIL FROM:<>|RCPT TO:<b@a.org>"), crlf("HELO x|MAIL FROM:<>|RCPT TO:<b@a.org>|DATA")} {
			holdsUp(t, fullConfig(), "", 1, begin, talk, "\r\n.\r\n", crlf("NOOP|MAIL FROM:<>"))
			holdsUp(t, fullConfig(), "", 1, begin+talk[:at], talk[at:], "\r\n.\r\n", crlf("NOOP|MAIL FROM:<>"))
			holdsUp(t, fullConfig(), "", 1, begin+"MAIL "+talk, "\r\n", crlf("RCPT TO:<b@a.org>|DATA|."))
			holdsUp(t, fullConfig(), "", 1, begin+"RCPT TO:<"+talk, ">\r\n", crlf("RCPT TO:<b@a.org>|DATA|."))
		}
	})
}
