package postbag_test

import (
	"math"
	"strings"
	"testing"

	"postbag/api"
	"postbag/postbag"
)

// crlf writes lines that are parted by | as they come.
func crlf(lines string) string {
	if lines == "" {
		return ""
	}
	return strings.ReplaceAll(lines, "|", "\r\n") + "\r\n"
}

// says holds what is said to a piece.
func says(t testing.TB, p *postbag.Post, conn int, piece, want string) {
	t.Helper()
	if said, errno := p.Receive(conn, piece); said != want || errno != api.OK {
		t.Errorf("Receive(%d, %q) = %q, %d, want %q", conn, piece, said, errno, want)
	}
}

// talk holds what is said to lines; both are parted by |.
func talk(t testing.TB, p *postbag.Post, conn int, lines, want string) {
	t.Helper()
	says(t, p, conn, crlf(lines), crlf(want))
}

func connect(t testing.TB, p *postbag.Post, addr int) int {
	t.Helper()
	conn, greeting, errno := p.Connect(addr)
	if greeting != "220 mx.org\r\n" || errno != api.OK {
		t.Fatalf("P7: Connect(%d) = %d, %q, %d", addr, conn, greeting, errno)
	}
	return conn
}

func isClosed(t testing.TB, p *postbag.Post, conn int) {
	t.Helper()
	for _, piece := range []string{"", "NOOP\r\n", "\r\n", "QUIT\r\n"} {
		if said, errno := p.Receive(conn, piece); said != "" || errno != api.ErrClosed {
			t.Errorf("P7: Receive(%d, %q) = %q, %d", conn, piece, said, errno)
		}
	}
	if errno := p.Close(conn); errno != api.ErrClosed {
		t.Errorf("P7: Close(%d) = %d", conn, errno)
	}
}

func refusesAddr(t testing.TB, p *postbag.Post, addr int) {
	t.Helper()
	if conn, greeting, errno := p.Connect(addr); conn != 0 || greeting != "" || errno != api.ErrArg {
		t.Errorf("P7: Connect(%d) = %d, %q, %d", addr, conn, greeting, errno)
	}
}

func TestExampleOfTakingMailIn(t *testing.T) {
	c := goodConfig()
	c.Nets = nil
	p := openWith(t, c, "")
	if conn, greeting, errno := p.Connect(1); conn != 0 || greeting != "220 mx.org\r\n" || errno != api.OK {
		t.Errorf("P7: Connect = %d, %q, %d", conn, greeting, errno)
	}
	talk(t, p, 0, "helo x|mail from:<>|RCPT TO:<b@A.ORG>|RCPT TO:<b@c.org>|DATA|..||.", "250 mx.org|250 ok|250 ok|550 no|354 go|250 kept 1")
	if got, want := queueOf(t, p), []api.Mail{{ID: 1, To: []string{"b@a.org"}, Body: ".\r\n"}}; !sameMails(got, want) {
		t.Errorf("P10: Queue = %v, want %v", got, want)
	}
	talk(t, p, 0, "AUTH PLAIN AHUAdw==|MAIL FROM:<>|RCPT TO:<b@c.org>", "235 ok|250 ok|250 ok")
}

func TestConnectAddrs(t *testing.T) {
	p := openWith(t, goodConfig(), "")
	next := 0
	for _, addr := range []int{0, -1, 1, api.MaxAddr + 1, api.MaxAddr - 1, math.MinInt, api.MaxAddr, math.MaxInt, 1 << 31, -1 << 31, 1<<32 + 5, -api.MaxAddr} {
		if addr < 0 || addr > api.MaxAddr {
			refusesAddr(t, p, addr)
			continue
		}
		if conn := connect(t, p, addr); conn != next {
			t.Errorf("P7: Connect(%d) = %d, want %d", addr, conn, next)
		}
		next++
	}
}

func TestConnectGreetsWithHost(t *testing.T) {
	label := strings.Repeat("h", api.MaxLabel)
	for _, host := range []string{"x", "Mx.ORG", "1", "a-b.c", label + "." + label[1:]} {
		c := goodConfig()
		c.Host = host
		p := openWith(t, c, "")
		if conn, greeting, errno := p.Connect(7); conn != 0 || greeting != "220 "+host+"\r\n" || errno != api.OK {
			t.Errorf("P7: Connect = %d, %q, %d", conn, greeting, errno)
		}
		talk(t, p, 0, "HELO x|EHLO x", "250 "+host+"|250-"+host+"|250-SIZE 100|250 AUTH PLAIN")
	}
}

// Those that are closed count, too: it is connections since Open that there may be so many of.
func TestConnectTooMany(t *testing.T) {
	p := openWith(t, goodConfig(), "")
	for want := range api.MaxConns {
		refusesAddr(t, p, -1)
		if conn := connect(t, p, want); conn != want {
			t.Errorf("P7: Connect = %d, want %d", conn, want)
		}
		switch want % 3 {
		case 0:
			talk(t, p, want, "QUIT", "221 bye")
		case 1:
			p.Close(want)
		}
	}
	for _, addr := range []int{0, 1, -1, api.MaxAddr, api.MaxAddr + 1} {
		refusesAddr(t, p, addr)
	}
	for conn := range api.MaxConns {
		if conn%3 == 2 {
			talk(t, p, conn, "NOOP", "250 ok")
		} else {
			isClosed(t, p, conn)
		}
	}
	isClosed(t, p, api.MaxConns)
	again := openWith(t, goodConfig(), keptOf(t, p))
	isClosed(t, again, 0)
	if conn := connect(t, again, 1); conn != 0 {
		t.Errorf("P7: Connect of another post = %d", conn)
	}
}

func TestReceiveOnNoConnection(t *testing.T) {
	p := openWith(t, goodConfig(), "")
	numbers := []int{math.MinInt, -api.MaxConns, -2, -1, 0, 1, 2, api.MaxConns - 1, api.MaxConns, api.MaxConns + 1, 1 << 32, 1<<32 + 1, math.MaxInt}
	for _, conn := range numbers {
		isClosed(t, p, conn)
	}
	connect(t, p, 1)
	connect(t, p, 1)
	for _, conn := range numbers {
		if conn != 0 && conn != 1 {
			isClosed(t, p, conn)
		}
	}
	talk(t, p, 0, "NOOP", "250 ok")
	if errno := p.Close(0); errno != api.OK {
		t.Errorf("P7: Close = %d", errno)
	}
	isClosed(t, p, 0)
	talk(t, p, 1, "NOOP|QUIT", "250 ok|221 bye")
	isClosed(t, p, 1)
	if conn := connect(t, p, 1); conn != 2 {
		t.Errorf("P7: Connect = %d, want 2", conn)
	}
	isClosed(t, p, 0)
	isClosed(t, p, 1)
}

func TestReceiveNothing(t *testing.T) {
	p := openWith(t, goodConfig(), "")
	connect(t, p, 1)
	says(t, p, 0, "", "")
	says(t, p, 0, "NOO", "")
	says(t, p, 0, "", "")
	says(t, p, 0, "P\r\n", "250 ok\r\n")
	says(t, p, 0, "", "")
}

func TestCloseForgets(t *testing.T) {
	for _, begun := range []string{"", "NO", "HELO x\r", "HELO x\r\nMAIL FROM:<>\r\n", "HELO x\r\nMAIL FROM:<>\r\nRCPT TO:<b@a.org>\r\nDATA\r\nhello\r\n", "HELO x\r\nMAIL FROM:<>\r\nRCPT TO:<b@a.org>\r\nDATA\r\nhello\r\n."} {
		p := openWith(t, goodConfig(), "")
		connect(t, p, 1)
		if _, errno := p.Receive(0, begun); errno != api.OK {
			t.Errorf("P7: Receive(%q): %d", begun, errno)
		}
		if errno := p.Close(0); errno != api.OK {
			t.Errorf("P7: Close behind %q: %d", begun, errno)
		}
		isClosed(t, p, 0)
		if keptOf(t, p) != "" || len(queueOf(t, p)) != 0 {
			t.Errorf("P7: behind %q and Close there is %v", begun, queueOf(t, p))
		}
		connect(t, p, 1)
		talk(t, p, 1, "NOOP|MAIL FROM:<>|.", "250 ok|503 first|500 what")
	}
}

func TestConnectionsAreApart(t *testing.T) {
	p := openWith(t, goodConfig(), "")
	for range 4 {
		connect(t, p, 1)
	}
	talk(t, p, 0, "HELO x|AUTH PLAIN AHUAdw==|MAIL FROM:<q@r>|RCPT TO:<x@c.org>", "250 mx.org|235 ok|250 ok|250 ok")
	talk(t, p, 1, "MAIL FROM:<>|HELO x|RCPT TO:<x@c.org>|MAIL FROM:<s@t>|RCPT TO:<x@c.org>|DATA", "503 first|250 mx.org|503 first|250 ok|550 no|503 first")
	says(t, p, 2, "HE", "")
	talk(t, p, 0, "DATA|one", "354 go")
	says(t, p, 3, "NOOP\r", "")
	talk(t, p, 2, "LO y", "250 mx.org")
	talk(t, p, 1, "RCPT TO:<b@a.org>|DATA|two", "250 ok|354 go")
	talk(t, p, 2, "NOOP", "250 ok")
	talk(t, p, 1, "QUIT|.", "250 kept 1")
	talk(t, p, 0, ".|QUIT", "250 kept 2|221 bye")
	says(t, p, 3, "\n", "250 ok\r\n")
	talk(t, p, 1, "NOOP", "250 ok")
	want := []api.Mail{{ID: 1, From: "s@t", To: []string{"b@a.org"}, Body: "two\r\nQUIT"}, {ID: 2, From: "q@r", To: []string{"x@c.org"}, Body: "one"}}
	if got := queueOf(t, p); !sameMails(got, want) {
		t.Errorf("P10: Queue = %v, want %v", got, want)
	}
}

func TestConnectionsOfPostsAreApart(t *testing.T) {
	other := goodConfig()
	other.Domains, other.Users, other.Size = []string{"c.org"}, nil, 7
	first, second := openWith(t, goodConfig(), ""), openWith(t, other, record(fromX))
	connect(t, first, 1)
	isClosed(t, second, 0)
	connect(t, second, 1)
	for range 2 {
		talk(t, first, 0, "EHLO x|MAIL FROM:<>|RCPT TO:<b@c.org>|RCPT TO:<b@a.org>|DATA|eight by|.", "250-mx.org|250-SIZE 100|250 AUTH PLAIN|250 ok|550 no|250 ok|354 go|250 kept "+string([]byte{byte('1' + len(queueOf(t, first)))}))
		talk(t, second, 0, "EHLO x|MAIL FROM:<>|RCPT TO:<b@c.org>|RCPT TO:<b@a.org>|DATA|eight by|.", "250-mx.org|250-SIZE 7|250 AUTH PLAIN|250 ok|250 ok|550 no|354 go|552 size")
	}
	if got := keptOf(t, second); got != record(fromX) {
		t.Errorf("P2: another post keeps %x", got)
	}
	second.Close(0)
	talk(t, first, 0, "NOOP", "250 ok")
}

func TestTakingInOfNilPost(t *testing.T) {
	var p *postbag.Post
	for _, n := range []int{math.MinInt, -1, 0, 1, api.MaxConns, api.MaxAddr, api.MaxAddr + 1, math.MaxInt} {
		if conn, greeting, errno := p.Connect(n); conn != 0 || greeting != "" || errno != api.ErrNil {
			t.Errorf("P1: Connect(%d) = %d, %q, %d", n, conn, greeting, errno)
		}
		for _, piece := range []string{"", "NOOP\r\n"} {
			if said, errno := p.Receive(n, piece); said != "" || errno != api.ErrNil {
				t.Errorf("P1: Receive(%d) = %q, %d", n, said, errno)
			}
		}
		if errno := p.Close(n); errno != api.ErrNil {
			t.Errorf("P1: Close(%d) = %d", n, errno)
		}
	}
}

// What was refused leaves the post as it was: its records, its connections and what was begun on them.
func TestRefusedCallsChangeNothing(t *testing.T) {
	p := openWith(t, goodConfig(), records(fromX))
	connect(t, p, 1)
	says(t, p, 0, "HELO x\r\nMAIL FROM:<>\r\nRCPT TO:<b@a.org>\r\nDATA\r\nhal", "250 mx.org\r\n250 ok\r\n250 ok\r\n354 go\r\n")
	kept, queue := keptOf(t, p), queueOf(t, p)
	refusesAddr(t, p, -1)
	refusesAddr(t, p, api.MaxAddr+1)
	isClosed(t, p, 1)
	isClosed(t, p, -1)
	if keptOf(t, p) != kept || !sameMails(queueOf(t, p), queue) {
		t.Errorf("P1: Kept and Queue changed to %x, %v", keptOf(t, p), queueOf(t, p))
	}
	if conn := connect(t, p, 1); conn != 1 {
		t.Errorf("P7: Connect = %d, want 1", conn)
	}
	talk(t, p, 0, "f|.", "250 kept 2")
	if got := queueOf(t, p)[1]; got.Body != "half" || got.Time != 3 {
		t.Errorf("P10: the mail is %v", got)
	}
}
