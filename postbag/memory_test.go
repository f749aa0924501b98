package postbag_test

import (
	"runtime"
	"slices"
	"strconv"
	"strings"
	"testing"
	"time"
	"unsafe"

	"postbag/api"
	"postbag/postbag"
)

// overlap tells whether two texts share memory.
func overlap(a, b string) bool {
	if a == "" || b == "" {
		return false
	}
	start, other := uintptr(unsafe.Pointer(unsafe.StringData(a))), uintptr(unsafe.Pointer(unsafe.StringData(b)))
	return start < other+uintptr(len(b)) && other < start+uintptr(len(a))
}

func textsOf(queue []api.Mail) []string {
	var texts []string
	for _, m := range queue {
		texts = append(append(texts, m.From, m.Body), m.To...)
	}
	return texts
}

// manyKept has texts of more than a byte, since short ones may be the runtime's own, and shared.
func manyKept() string {
	return records(
		mailRecord(1, 3, "sender@home.org", "some body", "first@host.org", "second@host.org", "third@host.org"),
		mailRecord(2, 5, "sender@home.org", "some body", "first@host.org"),
		goneRecord(1, 1), failedRecord(9, 1, 0),
		mailRecord(4, 9, "", "other body", tenNames()...),
	)
}

func TestAddressIsNewMemory(t *testing.T) {
	for _, s := range []string{"some.body@host.org", "Some.Body@Host.ORG"} {
		local, domain, ok := postbag.Address(s)
		if !ok || overlap(local, s) || overlap(domain, s) || overlap(local, domain) {
			t.Errorf("P2: Address(%q) shares memory: %q, %q, %v", s, local, domain, ok)
		}
	}
}

func TestAnswersAreNewMemory(t *testing.T) {
	kept := manyKept()
	p := openWith(t, goodConfig(), kept)
	texts := append(textsOf(queueOf(t, p)), textsOf(queueOf(t, p))...)
	texts = append(texts, keptOf(t, p), keptOf(t, p), kept)
	for i, a := range texts {
		for j, b := range texts {
			if i != j && overlap(a, b) {
				t.Errorf("P2: the texts %d (%q) and %d (%q) share memory", i, a, j, b)
			}
		}
	}
}

func TestQueueListsShareNothing(t *testing.T) {
	p := openWith(t, goodConfig(), manyKept())
	want := wantRead(manyKept()).queue()
	for i := range want {
		queue := queueOf(t, p)
		queue[i].To = queue[i].To[:cap(queue[i].To)]
		for j := range queue[i].To {
			queue[i].To[j] = "mine"
		}
		changed := slices.Clone(want)
		changed[i].To = queue[i].To
		if !sameMails(queue, changed) {
			t.Errorf("P2: with the list of %d filled Queue's answer is %v", i, queue)
		}
		queue = queue[:cap(queue)]
		for j := range queue {
			queue[j] = api.Mail{}
		}
		if got := queueOf(t, p); !sameMails(got, want) {
			t.Errorf("P2: Queue = %v, want %v", got, want)
		}
	}
}

func TestPostsAreApart(t *testing.T) {
	whole := manyKept()
	first, second, third := openWith(t, goodConfig(), whole), openWith(t, goodConfig(), record(fromX)), openWith(t, goodConfig(), "")
	for range 2 {
		if keptOf(t, first) != whole || keptOf(t, second) != record(fromX) || keptOf(t, third) != "" {
			t.Errorf("P2: Kept of three posts: %x, %x, %x", keptOf(t, first), keptOf(t, second), keptOf(t, third))
		}
		if !sameMails(queueOf(t, first), wantRead(whole).queue()) || !sameMails(queueOf(t, second), wantRead(record(fromX)).queue()) || len(queueOf(t, third)) != 0 {
			t.Errorf("P2: Queue of three posts: %v, %v, %v", queueOf(t, first), queueOf(t, second), queueOf(t, third))
		}
	}
}

// heldText gives a text, and a channel that is closed when its memory is free.
func heldText(s string) (string, <-chan struct{}) {
	free := make(chan struct{})
	memory := new([1 << 20]byte)
	copy(memory[:], s)
	runtime.SetFinalizer(memory, func(*[1 << 20]byte) { close(free) })
	return unsafe.String(&memory[0], len(memory)), free
}

// isFreed holds that memory becomes free while the post is still there.
func isFreed(t *testing.T, what string, p *postbag.Post, free <-chan struct{}) {
	t.Helper()
	defer runtime.KeepAlive(p)
	for range 100 {
		runtime.GC()
		select {
		case <-free:
			return
		case <-time.After(10 * time.Millisecond):
		}
	}
	t.Errorf("P2: %s is still held", what)
}

func TestOpenDoesNotHoldWhatCameIn(t *testing.T) {
	kept, free := heldText(manyKept())
	p := openWith(t, goodConfig(), kept)
	if !strings.HasPrefix(kept, keptOf(t, p)) {
		t.Errorf("P6: Kept = %x", keptOf(t, p))
	}
	kept = ""
	isFreed(t, "what was handed in to Open", p, free)
}

func TestOpenDoesNotHoldTextsOfSettings(t *testing.T) {
	changes := []func(c *api.Config, text string){
		func(c *api.Config, text string) { c.Host = text[:6] },
		func(c *api.Config, text string) { c.Domains = []string{"x.org", text[7:12]} },
		func(c *api.Config, text string) { c.Users = []api.User{{Name: text[13:14], Word: "w"}} },
		func(c *api.Config, text string) { c.Users = []api.User{{Name: "u", Word: text[15:16]}} },
	}
	for i, change := range changes {
		text, free := heldText("mx.org a.org u w")
		c := goodConfig()
		change(&c, text)
		p := openWith(t, c, "")
		connect(t, p, 1)
		talk(t, p, 0, "HELO x|AUTH PLAIN AHUAdw==|MAIL FROM:<>|RCPT TO:<b@a.org>", "250 mx.org|235 ok|250 ok|250 ok")
		text, c = "", api.Config{}
		isFreed(t, "text "+strconv.Itoa(i)+" of the settings", p, free)
	}
}

func TestReceiveDoesNotHoldWhatCameIn(t *testing.T) {
	pieces := []string{
		"HELO some.host\r\n",
		"HELO some.host\r\nAUTH PLAIN AHUAdw==\r\nMAIL FROM:<some.body@home.org>\r\nRCPT TO:<some.body@host.org>\r\n",
		"HELO some.host\r\nMAIL FROM:<some.body@home.org>\r\nRCPT TO:<some.body@a.org>\r\nDATA\r\nsome text\r\nmore text\r\n",
		"HELO some.host\r\nMAIL FROM:<some.body@home.org>\r\nRCPT TO:<some.body@a.org>\r\nDATA\r\nsome text\r\nmore text\r\n.\r\n",
		"EHLO some.host",
	}
	for _, piece := range pieces {
		p := openWith(t, goodConfig(), "")
		connect(t, p, 1)
		text, free := heldText(piece)
		if said, errno := p.Receive(0, text[:len(piece)]); errno != api.OK {
			t.Errorf("P7: Receive = %q, %d", said, errno)
		}
		text = ""
		isFreed(t, "what was handed in to Receive", p, free)
	}
}

// The lists are the caller's again when Open has answered.
func TestOpenDoesNotHoldLists(t *testing.T) {
	c := fullConfig()
	p := openWith(t, c, "")
	for i := range c.Domains {
		c.Domains[i] = "x"
	}
	for i := range c.Nets {
		c.Nets[i] = api.Net{}
	}
	for i := range c.Users {
		c.Users[i] = api.User{Name: "x", Word: "x"}
	}
	connect(t, p, 1)
	talk(t, p, 0, "HELO x|"+plain("\x00x\x00x")+"|MAIL FROM:<>|RCPT TO:<b@x>|RCPT TO:<b@a.org>|RCPT TO:<b@b.org>|RCPT TO:<b@c>|RSET|"+plain("\x00u\x00w"), "250 mx.org|535 no|250 ok|550 no|250 ok|250 ok|250 ok|250 ok|235 ok")
	connect(t, p, 257)
	talk(t, p, 1, "HELO x|MAIL FROM:<>|RCPT TO:<b@x>", "250 mx.org|250 ok|250 ok")
}

func TestTalkIsNewMemory(t *testing.T) {
	p := openWith(t, goodConfig(), "")
	piece := "NOOP\r\nMAIL FROM:<>\r\n"
	texts := []string{piece}
	for conn := range 3 {
		_, greeting, _ := p.Connect(1)
		texts = append(texts, greeting)
		for range 3 {
			said, _ := p.Receive(conn, piece)
			more, _ := p.Receive(conn, "NOOP\r\n")
			texts = append(texts, said, more)
		}
	}
	for i, a := range texts {
		for j, b := range texts {
			if a == "" || i != j && overlap(a, b) {
				t.Errorf("P2: the texts %d (%q) and %d (%q) share memory", i, a, j, b)
			}
		}
	}
}

func heapInUse() uint64 {
	runtime.GC()
	runtime.GC()
	var m runtime.MemStats
	runtime.ReadMemStats(&m)
	return m.HeapAlloc
}

// However much comes, no more of it waits than may be kept of it.
func TestWhatWaitsIsBounded(t *testing.T) {
	const most = 1 << 20
	body := "HELO x\r\nMAIL FROM:<>\r\nRCPT TO:<b@a.org>\r\nDATA\r\n"
	floods := []struct{ begin, piece string }{
		{"", strings.Repeat("x", 1<<16)},
		{"", strings.Repeat("\r", 1<<16)},
		{"", strings.Repeat("NOOP\r\n", 1<<13)},
		{body, strings.Repeat("x", 1<<16)},
		{body, strings.Repeat("some text\r\n", 1<<13)},
		{body, strings.Repeat("\r\n", 1<<15)},
		{body, strings.Repeat("bad\x00\r\n", 1<<13)},
		{"HELO x\r\nMAIL FROM:<>\r\n", strings.Repeat("RCPT TO:<b@a.org>\r\nRCPT TO:<b@A.org>\r\n", 1<<11)},
	}
	for i, flood := range floods {
		p := openWith(t, goodConfig(), "")
		for conn := range 20 {
			connect(t, p, 1)
			p.Receive(conn, flood.begin)
		}
		before := heapInUse()
		for conn := range 20 {
			for range 10 {
				p.Receive(conn, flood.piece)
			}
		}
		if after := heapInUse(); after > before+most {
			t.Errorf("P8: flood %d: %d bytes more are held", i, after-before)
		}
		runtime.KeepAlive(p)
	}
}

// Of a connection that is closed nothing is held.
func TestClosedConnectionsAreFree(t *testing.T) {
	posts := make([]*postbag.Post, 50)
	for i := range posts {
		posts[i] = openWith(t, wideConfig(), "")
	}
	before := heapInUse()
	for _, p := range posts {
		for conn := range api.MaxConns {
			connect(t, p, 1)
			p.Receive(conn, "HELO x\r\n")
			if conn%2 == 0 {
				p.Receive(conn, "MAIL FROM:<>\r\nRCPT TO:<b@a.org>\r\nDATA\r\n"+crlf(bodyOf(900)))
				p.Close(conn)
			} else {
				p.Receive(conn, "QUIT\r\n")
			}
		}
	}
	if after := heapInUse(); after > before+1<<20 {
		t.Errorf("P7: %d bytes more are held", after-before)
	}
	runtime.KeepAlive(posts)
}
