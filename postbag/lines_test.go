package postbag_test

import (
	"strings"
	"testing"

	"postbag/api"
)

// holdsUp lets a post and what the tests want of it hear the same pieces on one connection, and holds all that can be seen of both against each other.
func holdsUp(t testing.TB, c api.Config, kept string, addr int, pieces ...string) {
	t.Helper()
	p, want := openWith(t, c, kept), wantedOpen(c, kept)
	p.Connect(addr)
	want.connect(addr)
	for i, piece := range pieces {
		said, errno := p.Receive(0, piece)
		wantSaid, wantErrno := want.receive(0, piece)
		if said != wantSaid || errno != wantErrno {
			t.Errorf("Receive(%q) behind %q = %q, %d, want %q, %d", piece, pieces[:i], said, errno, wantSaid, wantErrno)
		}
	}
	if got := keptOf(t, p); got != want.kept {
		t.Errorf("behind %q Kept = %x, want %x", pieces, got, want.kept)
	}
	if got := queueOf(t, p); !sameMails(got, wantRead(want.kept).queue()) {
		t.Errorf("behind %q Queue = %v, want %v", pieces, got, wantRead(want.kept).queue())
	}
}

// With an argument that may be anything, NOOP tells a line that is bad from one that is not.
func TestLineLengths(t *testing.T) {
	p := openWith(t, goodConfig(), "")
	connect(t, p, 1)
	for size := 5; size <= 3*api.MaxLine; size++ {
		line := "NOOP " + strings.Repeat("x", size-5)
		want := "501 how"
		if size > api.MaxLine {
			want = "500 what"
		}
		talk(t, p, 0, line+"|NOOP", want+"|250 ok")
		says(t, p, 0, line, "")
		says(t, p, 0, "\r", "")
		says(t, p, 0, "\n", want+"\r\n")
	}
	for _, size := range []int{1 << 10, 1 << 16, 1 << 22} {
		talk(t, p, 0, strings.Repeat("x", size)+"|NOOP", "500 what|250 ok")
		talk(t, p, 0, strings.Repeat("NOOP ", size)+"|NOOP", "500 what|250 ok")
		talk(t, p, 0, strings.Repeat("\r", size)+"|NOOP", "500 what|250 ok")
		talk(t, p, 0, strings.Repeat("\n", size)+"|NOOP", "500 what|250 ok")
	}
}

func TestLineBytes(t *testing.T) {
	p := openWith(t, goodConfig(), "")
	connect(t, p, 1)
	for i := range 256 {
		c := string([]byte{byte(i)})
		want := "501 how"
		if i == 0 || i == 10 || i == 13 || i > 126 {
			want = "500 what"
		}
		for _, line := range []string{"NOOP " + c, "NOOP " + c + "x", "NOOP x" + c, "NOOP " + strings.Repeat("x", api.MaxLine-6) + c} {
			says(t, p, 0, line+"\r\n", want+"\r\n")
			talk(t, p, 0, "NOOP", "250 ok")
		}
		want = "500 what"
		if c == " " {
			want = "501 how"
		}
		says(t, p, 0, "NOOP"+c+"\r\n", want+"\r\n")
		says(t, p, 0, c+"NOOP\r\n", "500 what\r\n")
	}
	for _, letter := range []string{"ü", "\u212a", "ſ", "\U0001f600", "\xc3", "\xff\xfe"} {
		says(t, p, 0, "NOOP "+letter+"\r\n"+letter+"\r\n", "500 what\r\n500 what\r\n")
	}
	talk(t, p, 0, "r\u017fet|R\u017fET", "500 what|500 what")
}

func TestLineEnds(t *testing.T) {
	p := openWith(t, goodConfig(), "")
	connect(t, p, 1)
	says(t, p, 0, "NOOP\n", "")
	says(t, p, 0, "NOOP\r", "")
	says(t, p, 0, "NOOP\r\n", "500 what\r\n")
	says(t, p, 0, "\r\n", "500 what\r\n")
	says(t, p, 0, "\n\r\n", "500 what\r\n")
	says(t, p, 0, "\r\r\n", "500 what\r\n")
	says(t, p, 0, "NOOP\r\r\n", "500 what\r\n")
	says(t, p, 0, "\nNOOP\r\n", "500 what\r\n")
	says(t, p, 0, "\rNOOP\r\n", "500 what\r\n")
	says(t, p, 0, "NO\rOP\r\n", "500 what\r\n")
	says(t, p, 0, "NO\nOP\r\n", "500 what\r\n")
	says(t, p, 0, "NOOP\r\nNOOP\r\nNO", "250 ok\r\n250 ok\r\n")
	says(t, p, 0, "OP\r\n\r\nNOOP\r", "250 ok\r\n500 what\r\n")
	says(t, p, 0, "\n\r", "250 ok\r\n")
	says(t, p, 0, "\n", "500 what\r\n")
	says(t, p, 0, "NOOP\n\rNOOP\r\n", "500 what\r\n")
}

// The marks of a line's end at each place where a line is too long already, or nearly.
func TestLineEndsFarBehind(t *testing.T) {
	for ahead := api.MaxLine - 5; ahead <= api.MaxLine+5; ahead++ {
		for _, mark := range []string{"\r", "\n", "\r\r", "\n\r", "\r\n", "\r\n\r\n"} {
			for behind := range 4 {
				s := strings.Repeat("x", ahead) + mark + strings.Repeat("y", behind) + "\r\nNOOP\r\n"
				holdsUp(t, goodConfig(), "", 1, s)
				holdsUp(t, goodConfig(), "", 1, s[:ahead], s[ahead:ahead+1], s[ahead+1:ahead+2], s[ahead+2:])
			}
		}
	}
}

func TestBehindQuit(t *testing.T) {
	for _, behind := range []string{"", "x", "NOOP\r\n", "\r\n", "QUIT\r\n", strings.Repeat("NOOP\r\n", 1000), "HELO x\r\nMAIL FROM:<>\r\nRCPT TO:<b@a.org>\r\nDATA\r\n.\r\n"} {
		for _, quit := range []string{"QUIT", "quit", "qUiT"} {
			p := openWith(t, goodConfig(), "")
			connect(t, p, 1)
			says(t, p, 0, "NOOP\r\n"+quit+"\r\n"+behind, "250 ok\r\n221 bye\r\n")
			isClosed(t, p, 0)
			if len(queueOf(t, p)) != 0 || keptOf(t, p) != "" {
				t.Errorf("P8: behind a QUIT %q was heard", behind)
			}
		}
	}
}

func TestNoQuit(t *testing.T) {
	p := openWith(t, goodConfig(), "")
	connect(t, p, 1)
	talk(t, p, 0, "QUIT |QUIT x|QUITS| QUIT|QUI|QUIT\x00|QUIT\t|NOOP", "501 how|501 how|500 what|500 what|500 what|500 what|500 what|250 ok")
	says(t, p, 0, "QUIT\n\r\nQUIT\r\r\n", "500 what\r\n500 what\r\n")
	says(t, p, 0, "QUIT", "")
	says(t, p, 0, "\r", "")
	says(t, p, 0, "\n", "221 bye\r\n")
	isClosed(t, p, 0)
}

// With a transaction or a body begun a QUIT forgets it, too.
func TestQuitForgets(t *testing.T) {
	p := openWith(t, goodConfig(), "")
	connect(t, p, 1)
	talk(t, p, 0, "HELO x|MAIL FROM:<>|RCPT TO:<b@a.org>|QUIT|DATA|.", "250 mx.org|250 ok|250 ok|221 bye")
	isClosed(t, p, 0)
	if len(queueOf(t, p)) != 0 {
		t.Errorf("P8: Queue = %v", queueOf(t, p))
	}
}
