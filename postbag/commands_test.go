package postbag_test

import (
	"encoding/base64"
	"strconv"
	"strings"
	"testing"

	"postbag/api"
)

// fullConfig has some of all, so that each thing a command can hang on is there to be asked.
func fullConfig() api.Config {
	return api.Config{
		Host:    "mx.org",
		Domains: []string{"a.org", "B.Org", "c"},
		Nets:    []api.Net{{Addr: 10 << 24, Len: 8}, {Addr: 256, Len: 24}, {Addr: api.MaxAddr, Len: 32}},
		Users:   []api.User{{Name: "u", Word: "w"}, {Name: "U", Word: "W"}, {Name: "w", Word: "u"}, {Name: strings.Repeat("n", 20), Word: strings.Repeat("\xff", 20)}},
		To:      3, Size: 300,
		Waits: []int{5},
		Life:  50,
		Room:  2000,
	}
}

func plain(bytes string) string {
	return "AUTH PLAIN " + base64.StdEncoding.EncodeToString([]byte(bytes))
}

func TestCommandsAheadOfGreeting(t *testing.T) {
	p := openWith(t, goodConfig(), "")
	connect(t, p, 1)
	talk(t, p, 0, "NOOP|RSET|AUTH PLAIN AHUAdw==|AUTH PLAIN |MAIL FROM:<>|MAIL FROM:<> SIZE=101|RCPT TO:<b@a.org>|RCPT TO:<b@c.org>|DATA|.|", "250 ok|250 ok|503 first|503 first|503 first|503 first|503 first|503 first|503 first|500 what|500 what")
	talk(t, p, 0, "HELO|EHLO|HELO -|EHLO a..b|MAIL FROM:<>", "501 how|501 how|501 how|501 how|503 first")
	talk(t, p, 0, "RSET|NOOP|MAIL FROM:<>|EHLO x|MAIL FROM:<>", "250 ok|250 ok|503 first|250-mx.org|250-SIZE 100|250 AUTH PLAIN|250 ok")
	connect(t, p, 1)
	talk(t, p, 1, "MAIL FROM:<>|helo X.y|MAIL FROM:<>", "503 first|250 mx.org|250 ok")
}

// Which answer comes first, where more than one would be right.
func TestCommandsOrderOfAnswers(t *testing.T) {
	p := openWith(t, goodConfig(), "")
	connect(t, p, 1)
	talk(t, p, 0, "AUTH|AUTH PLAIN|AUTH PLAIN x|MAIL|MAIL FROM:|RCPT|RCPT TO:<>|DATA |QUIT |RSET |NOOP x", "501 how|501 how|501 how|501 how|501 how|501 how|501 how|501 how|501 how|501 how|501 how")
	talk(t, p, 0, "AUTHS|AUT|MAILFROM:<>|DATA\x01x|HELOx|HELO:x", "500 what|500 what|500 what|500 what|500 what|500 what")
	talk(t, p, 0, "HELO x|MAIL FROM:<> SIZE=100|MAIL FROM:<> SIZE=101|"+plain("x")+"|"+plain("\x00u\x00w"), "250 mx.org|250 ok|503 first|503 first|503 first")
	talk(t, p, 0, "RCPT TO:<a@a.org>|RCPT TO:<b@a.org>|RCPT TO:<c@a.org>|RCPT TO:<x@x.org>|RCPT TO:<a@a.org>|RCPT TO:<a@A.ORG>|RCPT TO:<A@a.org>", "250 ok|250 ok|452 many|452 many|250 ok|250 ok|452 many")
	talk(t, p, 0, "RSET|"+plain("\x00u\x00w")+"|"+plain("\x00u\x00w")+"|"+plain("x")+"|MAIL FROM:<>|"+plain("\x00u\x00w"), "250 ok|235 ok|503 first|503 first|250 ok|503 first")
}

func TestCommandsWithoutArgument(t *testing.T) {
	for _, word := range []string{"NOOP", "RSET", "QUIT", "DATA"} {
		p := openWith(t, goodConfig(), "")
		connect(t, p, 1)
		talk(t, p, 0, "HELO x|MAIL FROM:<>|RCPT TO:<b@a.org>", "250 mx.org|250 ok|250 ok")
		for _, argument := range []string{" ", "  ", " x", " x y", " NOOP", " " + strings.Repeat("x", api.MaxLine-5)} {
			talk(t, p, 0, word+argument, "501 how")
			talk(t, p, 0, strings.ToLower(word)+argument, "501 how")
		}
		want := map[string]string{"NOOP": "250 ok", "RSET": "250 ok", "QUIT": "221 bye", "DATA": "354 go"}[word]
		talk(t, p, 0, word[:2]+strings.ToLower(word[2:]), want)
	}
}

func TestGreetings(t *testing.T) {
	label := strings.Repeat("l", api.MaxLabel)
	texts := []string{"x", "X", "x.y", "1", "a-b", label, label + "." + label[1:], "", " ", " x", "x ", "x y", ".", "-", "a.", ".a", "a_b", "a@b", "[1.2.3.4]", label + "l", label + "." + label}
	for _, word := range []string{"HELO", "helo", "hElO", "EHLO", "ehlo", "EhLo"} {
		for _, text := range texts {
			p := openWith(t, goodConfig(), "")
			connect(t, p, 1)
			want := "250 mx.org|250 ok"
			if strings.EqualFold(word, "EHLO") {
				want = "250-mx.org|250-SIZE 100|250 AUTH PLAIN|250 ok"
			}
			if !wantDomain(text) {
				want = "501 how|503 first"
			}
			talk(t, p, 0, word+" "+text+"|MAIL FROM:<>", want)
		}
	}
	for _, size := range []int{1, 9, 10, api.MaxSize} {
		c := goodConfig()
		c.Size = size
		p := openWith(t, c, "")
		connect(t, p, 1)
		talk(t, p, 0, "EHLO x", "250-mx.org|250-SIZE "+strconv.Itoa(size)+"|250 AUTH PLAIN")
	}
}

// A transaction is over with HELO, EHLO and RSET, and what makes the connection known is not.
func TestTransactionIsOver(t *testing.T) {
	for _, end := range []string{"HELO y", "EHLO y", "RSET"} {
		said := map[string]string{"HELO y": "250 mx.org", "EHLO y": "250-mx.org|250-SIZE 100|250 AUTH PLAIN", "RSET": "250 ok"}[end]
		p := openWith(t, goodConfig(), "")
		connect(t, p, 1)
		talk(t, p, 0, "HELO x|AUTH PLAIN AHUAdw==|MAIL FROM:<q@r>|RCPT TO:<x@c.org>|RCPT TO:<y@c.org>", "250 mx.org|235 ok|250 ok|250 ok|250 ok")
		talk(t, p, 0, end+"|DATA|RCPT TO:<x@c.org>|AUTH PLAIN AHUAdw==", said+"|503 first|503 first|503 first")
		talk(t, p, 0, "MAIL FROM:<s@t>|DATA|RCPT TO:<z@c.org>|RCPT TO:<v@c.org>|DATA|.", "250 ok|503 first|250 ok|250 ok|354 go|250 kept 1")
		if got, want := queueOf(t, p), []api.Mail{{ID: 1, From: "s@t", To: []string{"z@c.org", "v@c.org"}}}; !sameMails(got, want) {
			t.Errorf("P9: behind %s Queue = %v, want %v", end, got, want)
		}
	}
	p := openWith(t, goodConfig(), "")
	connect(t, p, 1)
	talk(t, p, 0, "HELO x|MAIL FROM:<>|NOOP|RSET x|HELO -|WHAT||RCPT TO:<b@a.org>|DATA", "250 mx.org|250 ok|250 ok|501 how|501 how|500 what|500 what|250 ok|354 go")
}

func TestAuthNames(t *testing.T) {
	n, f := strings.Repeat("n", 20), strings.Repeat("\xff", 20)
	good := []string{"\x00u\x00w", "u\x00u\x00w", "\x00U\x00W", "U\x00U\x00W", "\x00w\x00u", "w\x00w\x00u", "\x00" + n + "\x00" + f, n + "\x00" + n + "\x00" + f}
	wrong := []string{"", "\x00", "\x00\x00", "\x00\x00\x00", "u", "uw", "u\x00w", "\x00u", "\x00u\x00", "\x00\x00w", "\x00u\x00W", "\x00U\x00w", "\x00u\x00u", "\x00w\x00w", "\x00x\x00w",
		"U\x00u\x00w", "u\x00U\x00W", "w\x00u\x00w", "x\x00u\x00w", "\x00\x00u\x00w", "u\x00\x00u\x00w", "\x00u\x00w\x00", "\x00u\x00w\x00x", "\x00u\x00\x00w", "\x00u\x00w ", " \x00u\x00w", "uu\x00u\x00w", "\x00u\x00ww", "\x00uu\x00w",
		"\x00" + n + "\x00" + f[1:], "\x00" + n + "\x00" + f + "\xff", n[1:] + "\x00" + n + "\x00" + f}
	for _, bytes := range append(good, wrong...) {
		p := openWith(t, fullConfig(), "")
		connect(t, p, 1)
		talk(t, p, 0, "HELO x", "250 mx.org")
		if len(bytes) > 0 && strings.Contains("|"+strings.Join(good, "|")+"|", "|"+bytes+"|") {
			talk(t, p, 0, plain(bytes)+"|MAIL FROM:<>|RCPT TO:<x@x>", "235 ok|250 ok|250 ok")
		} else {
			talk(t, p, 0, plain(bytes)+"|MAIL FROM:<>|RCPT TO:<x@x>|RSET|"+plain(good[0]), "535 no|250 ok|550 no|250 ok|235 ok")
		}
	}
	none := fullConfig()
	none.Users = nil
	p := openWith(t, none, "")
	connect(t, p, 1)
	talk(t, p, 0, "HELO x|"+plain("\x00\x00")+"|"+plain("")+"|"+plain(good[0]), "250 mx.org|535 no|535 no|535 no")
}

func TestAuthForms(t *testing.T) {
	p := openWith(t, goodConfig(), "")
	connect(t, p, 1)
	talk(t, p, 0, "HELO x", "250 mx.org")
	for _, argument := range []string{"", " ", " PLAIN", " PLAI", " PLAINAHUAdw==", "  PLAIN AHUAdw==", " PLAIN  AHUAdw==", " PLAIN AHUAdw== ", " PLAIN AHUAdw", " PLAIN AHUAdw=", " PLAIN AHUAdx==", " PLAIN AHUA dw==", " PLAIN =", " PLAIN A", " PLAIN AHUAd-==", " LOGIN AHUAdw==", " PLAIN=AHUAdw==", " PLAINS AHUAdw==", " CRAM AHUAdw=="} {
		talk(t, p, 0, "AUTH"+argument, "501 how")
	}
	talk(t, p, 0, "AUTH PLAIN |AUTH PLAIN AAAA|auth pLaIn ahuadw==|MAIL FROM:<>|RCPT TO:<x@c.org>|RSET|aUtH pLaIn AHUAdw==", "535 no|535 no|535 no|250 ok|550 no|250 ok|235 ok")
}

func TestMailForms(t *testing.T) {
	label := strings.Repeat("l", api.MaxLabel)
	longest := label + "@" + label + "." + label[1:]
	for _, argument := range []string{"FROM:<>", "from:<>", "FrOm:<a@b>", "FROM:<x.y+z@A.b-1>", "FROM:<" + longest + ">", "FROM:<> SIZE=0", "FROM:<> size=100", "FROM:<a@b> SiZe=99", "FROM:<> SIZE=1"} {
		p := openWith(t, goodConfig(), "")
		connect(t, p, 1)
		talk(t, p, 0, "HELO x|MAIL "+argument+"|RCPT TO:<b@a.org>|DATA|.", "250 mx.org|250 ok|250 ok|354 go|250 kept 1")
		from, _, _ := strings.Cut(argument[len("FROM:<"):], ">")
		if local, domain, ok := wantAddress(from); ok {
			from = local + "@" + domain
		}
		if got := queueOf(t, p); len(got) != 1 || got[0].From != from {
			t.Errorf("P9: behind MAIL %s Queue = %v", argument, got)
		}
	}
	p := openWith(t, goodConfig(), "")
	connect(t, p, 1)
	talk(t, p, 0, "HELO x", "250 mx.org")
	for _, argument := range []string{"", "FROM", "FROM:", "FROM:<", "FROM:>", "FROM:<<>", "FROM:<>>", "FROM:<<>>", "FROM<>", " FROM:<>", "FROM: <>", "FROM:< >", "FROM :<>", "TO:<>", "FORM:<>", "FROM:a@b", "FROM:<a@b", "FROM:a@b>", "FROM:<a>", "FROM:<@b>", "FROM:<a@>", "FROM:<a@b@c>", "FROM:<a@b-> SIZE=1", "FROM:<.a@b>", "FROM:<l" + longest + ">",
		"FROM:<> ", "FROM:<>  SIZE=1", "FROM:<>SIZE=1", "FROM:<> SIZE", "FROM:<> SIZE=", "FROM:<> SIZE= 1", "FROM:<> SIZE=1 ", "FROM:<> SIZE=+1", "FROM:<> SIZE=-1", "FROM:<> SIZE=01", "FROM:<> SIZE=00", "FROM:<> SIZE=000000001", "FROM:<> SIZE=1000000000", "FROM:<> SIZE=0000000000", "FROM:<> SIZE=99999999999999999999", "FROM:<> SIZE=1x", "FROM:<> SIZE=x", "FROM:<> SIZE=1_0", "FROM:<> SIZE=/", "FROM:<> SIZE=:", "FROM:<> SIZE=0x1", "FROM:<> SIZE:1", "FROM:<> SIZ=1", "FROM:<> BODY=1", "FROM:<> SIZE=1 SIZE=1", "FROM:<>\tSIZE=1"} {
		talk(t, p, 0, "MAIL "+argument, "501 how")
	}
	talk(t, p, 0, "MAIL|DATA|RCPT TO:<b@a.org>", "501 how|503 first|503 first")
}

func TestMailSizes(t *testing.T) {
	for _, size := range []int{1, 100, 999, api.MaxSize} {
		c := goodConfig()
		c.Size = size
		for _, number := range []int{0, 1, size - 1, size, size + 1, 10 * size, 2147483648 - 1, 999999999} {
			p := openWith(t, c, "")
			connect(t, p, 1)
			want := "250 ok|503 first"
			if number > size {
				want = "552 size|250 ok"
			}
			line := "MAIL FROM:<> SIZE=" + strconv.Itoa(number)
			if number > 999999999 {
				want = "501 how|250 ok"
			}
			talk(t, p, 0, "HELO x|"+line+"|MAIL FROM:<>", "250 mx.org|"+want)
		}
	}
}

// The size that is told ahead says nothing of how long the body is to be.
func TestMailSizeIsNotTheBodys(t *testing.T) {
	p := openWith(t, goodConfig(), "")
	connect(t, p, 1)
	talk(t, p, 0, "HELO x|MAIL FROM:<> SIZE=1|RCPT TO:<b@a.org>|DATA|longer|.", "250 mx.org|250 ok|250 ok|354 go|250 kept 1")
}

func TestRcptForms(t *testing.T) {
	p := openWith(t, goodConfig(), "")
	connect(t, p, 1)
	talk(t, p, 0, "HELO x|MAIL FROM:<>", "250 mx.org|250 ok")
	for _, argument := range []string{"", "TO", "TO:", "TO:<", "TO:<>", "TO:>", "TO:<b@a.org", "TO:b@a.org>", "TO:b@a.org", "TO:<b@a.org> ", "TO:<b@a.org>x", "TO:<b@a.org>>", "TO:<<b@a.org>", "TO: <b@a.org>", " TO:<b@a.org>", "TO :<b@a.org>", "TO:<b>", "TO:<@a.org>", "TO:<b@>", "TO:<b@a.org.>", "TO:<b@a.org> SIZE=1", "TO:< b@a.org>", "TO:<b@a.org >", "FROM:<b@a.org>", "TOO:<b@a.org>", "T:<b@a.org>", "TO<b@a.org>", "TO:<" + strings.Repeat("b", 21) + "@a.org>"} {
		talk(t, p, 0, "RCPT "+argument, "501 how")
	}
	talk(t, p, 0, "RCPT|DATA", "501 how|503 first")
	talk(t, p, 0, "rcpt to:<b@a.org>|rCpT tO:<B@a.org>|DATA|.", "250 ok|250 ok|354 go|250 kept 1")
	if got := queueOf(t, p)[0].To; len(got) != 2 || got[0] != "b@a.org" || got[1] != "B@a.org" {
		t.Errorf("P9: to %q", got)
	}
}

func TestRcptCounts(t *testing.T) {
	for to := 1; to <= api.MaxTo; to++ {
		c := goodConfig()
		c.To = to
		p := openWith(t, c, "")
		connect(t, p, 10<<24+1)
		talk(t, p, 0, "HELO x|MAIL FROM:<>", "250 mx.org|250 ok")
		for i, name := range tenNames() {
			want := "250 ok"
			if i >= to {
				want = "452 many"
			}
			talk(t, p, 0, "RCPT TO:<"+name+">", want)
			talk(t, p, 0, "RCPT TO:<"+tenNames()[0]+">|RCPT TO:<"+tenNames()[min(i, to-1)]+">", "250 ok|250 ok")
		}
		talk(t, p, 0, "RCPT TO:<more@a.org>|DATA|.|MAIL FROM:<>|RCPT TO:<more@a.org>", "452 many|354 go|250 kept 1|250 ok|250 ok")
		if got, want := queueOf(t, p), []api.Mail{{ID: 1, To: tenNames()[:to]}}; !sameMails(got, want) {
			t.Errorf("P9: Queue = %v, want %v", got, want)
		}
	}
}

// One who was refused is not there: it is refused again, and takes no place.
func TestRcptRefused(t *testing.T) {
	p := openWith(t, goodConfig(), "")
	connect(t, p, 1)
	talk(t, p, 0, "HELO x|MAIL FROM:<>|RCPT TO:<x@x>|RCPT TO:<x@x>|RCPT TO:<y@x>|DATA|RCPT TO:<b@a.org>|RCPT TO:<x@x>|RCPT TO:<c@a.org>|RCPT TO:<x@x>|DATA|.", "250 mx.org|250 ok|550 no|550 no|550 no|503 first|250 ok|550 no|250 ok|452 many|354 go|250 kept 1")
	if got, want := queueOf(t, p), []api.Mail{{ID: 1, To: []string{"b@a.org", "c@a.org"}}}; !sameMails(got, want) {
		t.Errorf("P9: Queue = %v, want %v", got, want)
	}
}

func TestRcptDomains(t *testing.T) {
	c := goodConfig()
	c.Domains, c.Nets, c.To = []string{"a.org", "B.Org", "c", "1-2.x"}, nil, 1
	p := openWith(t, c, "")
	connect(t, p, 1)
	talk(t, p, 0, "HELO x", "250 mx.org")
	for _, name := range []string{"b@a.org", "b@A.oRG", "b@b.org", "b@B.ORG", "b@c", "b@C", "b@1-2.X"} {
		talk(t, p, 0, "MAIL FROM:<>|RCPT TO:<"+name+">|RSET", "250 ok|250 ok|250 ok")
	}
	for _, name := range []string{"b@org", "b@a", "b@x.a.org", "b@a.org.x", "b@aa.org", "b@a.or", "b@mx.org", "b@d", "a.org@d", "c@b", "b@1-2"} {
		talk(t, p, 0, "MAIL FROM:<>|RCPT TO:<"+name+">|RSET", "250 ok|550 no|250 ok")
	}
	c.Domains = nil
	p = openWith(t, c, "")
	connect(t, p, 1)
	talk(t, p, 0, "HELO x|MAIL FROM:<b@mx.org>|RCPT TO:<b@a.org>|RCPT TO:<b@mx.org>|DATA", "250 mx.org|250 ok|550 no|550 no|503 first")
}

func TestRcptNets(t *testing.T) {
	for size := 0; size <= 32; size++ {
		for _, base := range []int{0, api.MaxAddr, 0xA5A5A5A5, 0x80000000, 1} {
			behind := 1<<(32-size) - 1
			net := api.Net{Addr: base &^ behind, Len: size}
			last := net.Addr | behind
			c := goodConfig()
			c.Domains, c.Nets = nil, []api.Net{net}
			for _, addr := range []int{net.Addr, last, net.Addr - 1, last + 1, net.Addr ^ 1<<31, net.Addr ^ 1, 0, api.MaxAddr} {
				if addr < 0 || addr > api.MaxAddr {
					continue
				}
				p := openWith(t, c, "")
				connect(t, p, addr)
				want := "550 no"
				if net.Addr <= addr && addr <= last {
					want = "250 ok"
				}
				talk(t, p, 0, "HELO x|MAIL FROM:<>|RCPT TO:<x@x>", "250 mx.org|250 ok|"+want)
			}
		}
	}
	for addr, want := range map[int]string{10<<24 + 5: "250 ok", 256 + 255: "250 ok", api.MaxAddr: "250 ok", 11 << 24: "550 no", 512: "550 no", 255: "550 no", api.MaxAddr - 1: "550 no"} {
		p := openWith(t, fullConfig(), "")
		connect(t, p, addr)
		talk(t, p, 0, "HELO x|MAIL FROM:<>|RCPT TO:<x@x>", "250 mx.org|250 ok|"+want)
	}
}

func TestDataNeeds(t *testing.T) {
	p := openWith(t, goodConfig(), "")
	connect(t, p, 1)
	talk(t, p, 0, "DATA|HELO x|DATA|RCPT TO:<b@a.org>|DATA|MAIL FROM:<>|DATA|RCPT TO:<x@x>|DATA|RCPT TO:<b@a.org>|DATA", "503 first|250 mx.org|503 first|503 first|503 first|250 ok|503 first|550 no|503 first|250 ok|354 go")
	talk(t, p, 0, ".|DATA|RCPT TO:<b@a.org>|MAIL FROM:<>", "250 kept 1|503 first|503 first|250 ok")
}

// Every line in every state, against what the tests want of it, and then lines that show what came of it.
func TestCommandsInEachState(t *testing.T) {
	states := []string{"", "HELO x", "EHLO x", "HELO x|" + plain("\x00u\x00w"), "HELO x|MAIL FROM:<q@r>", "HELO x|MAIL FROM:<q@r>|RCPT TO:<b@a.org>", "HELO x|MAIL FROM:<>|RCPT TO:<b@a.org>|RCPT TO:<c@a.org>|RCPT TO:<d@B.org>", "HELO x|" + plain("w\x00w\x00u") + "|MAIL FROM:<q@r>|RCPT TO:<x@x>", "HELO x|MAIL FROM:<>|RCPT TO:<b@a.org>|DATA", "HELO x|MAIL FROM:<>|RCPT TO:<b@a.org>|DATA|body|.", "QUIT"}
	lines := []string{"", " ", ".", "..", "WHAT", "NOOP", "NOOP ", "RSET", "RSET x", "QUIT", "QUIT ", "DATA", "DATA x", "HELO", "HELO ", "HELO y", "HELO _", "EHLO", "EHLO y", "EHLO y ", "AUTH", "AUTH PLAIN", "AUTH PLAIN ", plain("\x00u\x00w"), plain("u\x00u\x00w"), plain("x\x00u\x00w"), "AUTH PLAIN AA=", "MAIL", "MAIL FROM:<>", "MAIL FROM:<A@B>", "MAIL FROM:<> SIZE=300", "MAIL FROM:<> SIZE=301", "MAIL FROM:<> SIZE=03", "MAIL FROM:<x>", "RCPT", "RCPT TO:<>", "RCPT TO:<b@a.org>", "RCPT TO:<b@A.ORG>", "RCPT TO:<B@a.org>", "RCPT TO:<e@c>", "RCPT TO:<x@x>", "RCPT TO:<y@y>", "NOOP " + strings.Repeat("x", 95), "NOOP " + strings.Repeat("x", 96), "\x00", "NOOP\r", "NOOP\x7f"}
	shows := []string{"AUTH PLAIN AHUAdw==", "RCPT TO:<x@x>", "RCPT TO:<f@a.org>", "DATA", ".", "MAIL FROM:<l@m>", "RCPT TO:<z@z>", "RCPT TO:<g@a.org>", "DATA", "more", "."}
	for _, addr := range []int{1, 256} {
		for _, state := range states {
			for _, line := range lines {
				for _, form := range []string{line, strings.ToLower(line), strings.ToUpper(line)} {
					pieces := []string{crlf(state), form + "\r\n"}
					for _, show := range shows {
						pieces = append(pieces, show+"\r\n")
					}
					holdsUp(t, fullConfig(), "", addr, pieces...)
				}
			}
		}
	}
}
