package postbag_test

import (
	"math"
	"strings"
	"testing"

	"postbag/api"
	"postbag/postbag"
)

// told is an answer of the other host, and what is said to it, without the line's end.
type told struct {
	code int
	said string
}

func answers(t testing.TB, p *postbag.Post, all ...told) {
	t.Helper()
	for i, one := range all {
		want := one.said
		if want != "" {
			want += "\r\n"
		}
		if said, errno := p.Answer(one.code); said != want || errno != api.OK {
			t.Errorf("P12: Answer(%d), the %d-th, = %q, %d, want %q", one.code, i, said, errno, want)
		}
	}
}

// toThree is a mail without a body from x@y to three.
func toThree() string {
	return record(mailRecord(1, 3, "x@y", "", "a@b", "c@d", "e@f"))
}

func TestExampleOfHandingOn(t *testing.T) {
	c := goodConfig()
	c.Nets = nil
	p := openWith(t, c, "")
	connect(t, p, 1)
	talk(t, p, 0, "helo x|mail from:<>|RCPT TO:<b@A.ORG>|RCPT TO:<b@c.org>|DATA|..||.", "250 mx.org|250 ok|250 ok|550 no|354 go|250 kept 1")
	dials(t, p, 1)
	answers(t, p, told{220, "EHLO mx.org"}, told{250, "MAIL FROM:<>"}, told{250, "RCPT TO:<b@a.org>"}, told{451, "QUIT"}, told{221, ""})
	isIdle(t, p)
	ticks(t, p, 4, api.OK)
	refusesDial(t, p, api.ErrIdle)
	ticks(t, p, 5, api.OK)
	dials(t, p, 1)
	hangs(t, p)
	ticks(t, p, 50, api.OK)
	holdsMails(t, p)
	refusesDial(t, p, api.ErrIdle)
}

func TestAnswerOneRecipient(t *testing.T) {
	p := openWith(t, goodConfig(), record(mailRecord(1, 3, "x@y", "some\r\ntext", "a@b")))
	dials(t, p, 1)
	answers(t, p, told{220, "EHLO mx.org"}, told{250, "MAIL FROM:<x@y>"}, told{250, "RCPT TO:<a@b>"}, told{250, "DATA"}, told{354, "some\r\ntext\r\n."}, told{250, "QUIT"})
	holdsMails(t, p, api.Mail{ID: 1, Time: 3, From: "x@y", To: []string{"a@b"}, Body: "some\r\ntext"})
	answers(t, p, told{221, ""})
	holdsMails(t, p)
	isIdle(t, p)
	if got, want := keptOf(t, p), records(mailRecord(1, 3, "x@y", "some\r\ntext", "a@b"), goneRecord(1, 0)); got != want {
		t.Errorf("P12: Kept = %x, want %x", got, want)
	}
}

// Those who have it are written first, then those who failed, each with rising places, whenever they were asked or refused.
func TestAnswerSeveralRecipients(t *testing.T) {
	mail := mailRecord(1, 3, "x@y", "hi", tenNames()...)
	kept := records(mail, goneRecord(1, 4))
	p := openWith(t, goodConfig(), kept)
	ticks(t, p, 9, api.OK)
	dials(t, p, 1)
	answers(t, p, told{220, "EHLO mx.org"}, told{250, "MAIL FROM:<x@y>"}, told{250, "RCPT TO:<a@host.org>"},
		told{250, "RCPT TO:<b@host.org>"}, told{550, "RCPT TO:<c@host.org>"}, told{450, "RCPT TO:<d@host.org>"}, told{299, "RCPT TO:<f@host.org>"},
		told{599, "RCPT TO:<g@host.org>"}, told{354, "RCPT TO:<h@host.org>"}, told{200, "RCPT TO:<i@host.org>"}, told{500, "RCPT TO:<j@host.org>"}, told{251, "DATA"},
		told{354, "hi\r\n."}, told{250, "QUIT"}, told{221, ""})
	want := kept + records(goneRecord(1, 0, 3, 7, 9), failedRecord(9, 1, 1, 5, 8))
	if got := keptOf(t, p); got != want {
		t.Errorf("P12: Kept = %x, want %x", got, want)
	}
	left := []string{"c@host.org", "g@host.org"}
	holdsMails(t, p, api.Mail{ID: 1, Time: 3, From: "x@y", To: left, Body: "hi"}, api.Mail{ID: 2, Time: 9, To: []string{"x@y"}, Body: "Not delivered:\r\nb@host.org\r\nf@host.org\r\ni@host.org"})
	ticks(t, p, 14, api.OK)
	dials(t, p, 2)
	hangs(t, p)
	dials(t, p, 1)
	answers(t, p, told{220, "EHLO mx.org"}, told{250, "MAIL FROM:<x@y>"}, told{250, "RCPT TO:<c@host.org>"}, told{550, "RCPT TO:<g@host.org>"}, told{250, "DATA"}, told{554, "QUIT"}, told{221, ""})
	want += record(failedRecord(14, 1, 2, 6))
	if got := keptOf(t, p); got != want {
		t.Errorf("P12: Kept = %x, want %x", got, want)
	}
}

// stepsAhead leads a talk with three recipients to each of its steps.
var stepsAhead = [][]int{{}, {220}, {220, 250}, {220, 250, 250}, {220, 250, 250, 250}, {220, 250, 250, 250, 250}, {220, 250, 250, 250, 250, 250}, {220, 250, 250, 250, 250, 250, 354}, {220, 250, 250, 250, 250, 250, 354, 250}, {550}, {220, 250, 250, 250, 550, 450}}

// What is said next, and who is there when the other host hangs up then, at the edges of what an answer may mean.
func TestAnswerEdgesAtEachStep(t *testing.T) {
	// next has what is said to 200 and 299, to 300 and 399, to 400 and 499, and to 500 and 599.
	next := func(yes, goOn, later, never string) []told {
		return []told{{200, yes}, {299, yes}, {300, goOn}, {399, goOn}, {400, later}, {499, later}, {500, never}, {599, never}}
	}
	always := func(text string) []told { return next(text, text, text, text) }
	data, over := next("QUIT", "\r\n.", "QUIT", "QUIT"), always("")
	wants := [][]told{
		next("EHLO mx.org", "QUIT", "QUIT", "QUIT"), next("MAIL FROM:<x@y>", "QUIT", "QUIT", "QUIT"), next("RCPT TO:<a@b>", "QUIT", "QUIT", "QUIT"),
		always("RCPT TO:<c@d>"), always("RCPT TO:<e@f>"), always("DATA"), data, always("QUIT"), over, over, data,
	}
	for i, ahead := range stepsAhead {
		for _, want := range wants[i] {
			p := pairOf(t, goodConfig(), toThree())
			p.dial()
			for _, code := range ahead {
				p.answer(code)
			}
			for _, code := range []int{math.MinInt, -250, -1, 0, 2, 25, 199, 600, 1000, 2250, 1<<32 + 250, math.MaxInt} {
				if said, errno := p.answer(code); said != "" || errno != api.ErrArg {
					t.Errorf("P12: Answer(%d) = %q, %d", code, said, errno)
				}
			}
			answers(t, p.post, want)
			p.want.answer(want.code)
			p.holds()
			p.hang()
		}
	}
}

// everyTalk goes through all talks that these codes make, each told from its beginning.
func everyTalk(codes []int, tell func(talk []int) (over bool)) {
	var more func(ahead []int)
	more = func(ahead []int) {
		for _, code := range codes {
			talk := append(ahead[:len(ahead):len(ahead)], code)
			if !tell(talk) {
				more(talk)
			}
		}
	}
	more(nil)
}

func TestAnswerEveryTalk(t *testing.T) {
	kepts := []string{
		record(mailRecord(1, 3, "x@y", ".", "a@b")),
		record(mailRecord(1, 3, "", "hi", "a@b", "c@d")),
		records(mailRecord(1, 3, "x@y", "", "a@b", "c@d", "e@f"), goneRecord(1, 1)),
		toThree(),
	}
	talks := 0
	for i, kept := range kepts {
		codes := []int{250, 354, 450, 550}
		if i == 0 {
			codes = []int{200, 299, 300, 399, 400, 499, 500, 599}
		}
		everyTalk(codes, func(talk []int) bool {
			talks++
			p := pairOf(t, goodConfig(), kept)
			p.tick(4)
			p.post.Dial()
			p.want.dial()
			for _, code := range talk[:len(talk)-1] {
				p.post.Answer(code)
				p.want.answer(code)
			}
			said, _ := p.answer(talk[len(talk)-1])
			if said != "" {
				p.hang()
			}
			isIdle(t, p.post)
			leavesOnce(t, keptOf(t, p.post))
			return said == ""
		})
	}
	if talks < 2000 {
		t.Errorf("only %d talks were told", talks)
	}
}

func TestAnswerRefusals(t *testing.T) {
	refusals := []struct {
		talk   []told
		gone   []int
		failed []int
	}{
		{[]told{{199 + 1, "EHLO mx.org"}, {250, "MAIL FROM:<x@y>"}, {500, "QUIT"}}, nil, []int{0, 1, 2}},
		{[]told{{220, "EHLO mx.org"}, {250, "MAIL FROM:<x@y>"}, {499, "QUIT"}}, nil, nil},
		{[]told{{554, "QUIT"}}, nil, nil},
		{[]told{{220, "EHLO mx.org"}, {500, "QUIT"}}, nil, nil},
		{[]told{{220, "EHLO mx.org"}, {250, "MAIL FROM:<x@y>"}, {250, "RCPT TO:<a@b>"}, {550, "RCPT TO:<c@d>"}, {550, "RCPT TO:<e@f>"}, {550, "QUIT"}}, nil, []int{0, 1, 2}},
		{[]told{{220, "EHLO mx.org"}, {250, "MAIL FROM:<x@y>"}, {250, "RCPT TO:<a@b>"}, {550, "RCPT TO:<c@d>"}, {450, "RCPT TO:<e@f>"}, {300, "QUIT"}}, nil, []int{0}},
		{[]told{{220, "EHLO mx.org"}, {250, "MAIL FROM:<x@y>"}, {250, "RCPT TO:<a@b>"}, {550, "RCPT TO:<c@d>"}, {450, "RCPT TO:<e@f>"}, {250, "DATA"}, {354, "\r\n."}, {250, "QUIT"}}, []int{2}, []int{0}},
		{[]told{{220, "EHLO mx.org"}, {250, "MAIL FROM:<x@y>"}, {250, "RCPT TO:<a@b>"}, {250, "RCPT TO:<c@d>"}, {450, "RCPT TO:<e@f>"}, {550, "DATA"}, {554, "QUIT"}}, nil, []int{0, 2}},
		{[]told{{220, "EHLO mx.org"}, {250, "MAIL FROM:<x@y>"}, {250, "RCPT TO:<a@b>"}, {250, "RCPT TO:<c@d>"}, {450, "RCPT TO:<e@f>"}, {550, "DATA"}, {250, "QUIT"}}, nil, []int{2}},
		{[]told{{220, "EHLO mx.org"}, {250, "MAIL FROM:<x@y>"}, {250, "RCPT TO:<a@b>"}, {250, "RCPT TO:<c@d>"}, {450, "RCPT TO:<e@f>"}, {550, "DATA"}, {354, "\r\n."}, {552, "QUIT"}}, nil, []int{0, 2}},
		{[]told{{220, "EHLO mx.org"}, {250, "MAIL FROM:<x@y>"}, {250, "RCPT TO:<a@b>"}, {250, "RCPT TO:<c@d>"}, {450, "RCPT TO:<e@f>"}, {550, "DATA"}, {354, "\r\n."}, {452, "QUIT"}}, nil, []int{2}},
		{[]told{{220, "EHLO mx.org"}, {250, "MAIL FROM:<x@y>"}, {250, "RCPT TO:<a@b>"}, {250, "RCPT TO:<c@d>"}, {450, "RCPT TO:<e@f>"}, {550, "DATA"}, {354, "\r\n."}, {354, "QUIT"}}, nil, []int{2}},
	}
	for i, r := range refusals {
		want := toThree()
		if r.gone != nil {
			want += record(goneRecord(1, r.gone...))
		}
		if r.failed != nil {
			want += record(failedRecord(3, 1, r.failed...))
		}
		for _, last := range []int{200, 221, 300, 421, 500, 599, 0} {
			p := openWith(t, goodConfig(), toThree())
			dials(t, p, 1)
			answers(t, p, r.talk...)
			if got := keptOf(t, p); got != toThree() {
				t.Errorf("P12: talk %d: ahead of its end Kept = %x", i, got)
			}
			if last == 0 {
				hangs(t, p)
			} else {
				answers(t, p, told{last, ""})
			}
			if got := keptOf(t, p); got != want {
				t.Errorf("P12: talk %d, ended by %d: Kept = %x, want %x", i, last, got, want)
			}
			isIdle(t, p)
		}
	}
}

// What came of the other host ahead of its silence holds.
func TestHangAtEachStep(t *testing.T) {
	gone, failed := record(goneRecord(1, 0, 1, 2)), record(failedRecord(3, 1, 1))
	wants := []string{"", "", "", "", "", "", "", "", gone, "", failed}
	for i, ahead := range stepsAhead {
		p := openWith(t, goodConfig(), toThree())
		dials(t, p, 1)
		for _, code := range ahead {
			p.Answer(code)
		}
		hangs(t, p)
		isIdle(t, p)
		if got, want := keptOf(t, p), toThree()+wants[i]; got != want {
			t.Errorf("P12: Hang behind %v: Kept = %x, want %x", ahead, got, want)
		}
		ticks(t, p, 7, api.OK)
		if wants[i] == failed {
			dials(t, p, 2)
			hangs(t, p)
		}
		refusesDial(t, p, api.ErrIdle)
		ticks(t, p, 8, api.OK)
		if wants[i] == gone {
			refusesDial(t, p, api.ErrIdle)
			continue
		}
		dials(t, p, 1)
		answers(t, p, told{220, "EHLO mx.org"}, told{250, "MAIL FROM:<x@y>"}, told{250, "RCPT TO:<a@b>"})
	}
}

func TestAnswerBodies(t *testing.T) {
	bodies := []struct{ body, said string }{
		{"", ""},
		{".", ".."},
		{"..", "..."},
		{".\r\n.", "..\r\n.."},
		{"\r\n", "\r\n"},
		{"\r\n.", "\r\n.."},
		{".\r\n", "..\r\n"},
		{"\r\n\r\n.\r\n\r\n", "\r\n\r\n..\r\n\r\n"},
		{"a.\r\nb", "a.\r\nb"},
		{"a\r\n.b\r\nc.\r\n..d\r\n .e", "a\r\n..b\r\nc.\r\n...d\r\n .e"},
		{"a\n.b\r.c\n\r.d", "a\n.b\r.c\n\r.d"},
		{"a\r\r\n.b\r\n\n.c", "a\r\r\n..b\r\n\n.c"},
		{"\x00\xff\r\n.\x80", "\x00\xff\r\n..\x80"},
		{".\r", "..\r"},
		{strings.Repeat(".\r\n", 333) + ".", strings.Repeat("..\r\n", 333) + ".."},
		{strings.Repeat(".", api.MaxSize), strings.Repeat(".", api.MaxSize+1)},
	}
	for _, b := range bodies {
		p := openWith(t, goodConfig(), record(mailRecord(1, 3, "", b.body, "a@b")))
		dials(t, p, 1)
		answers(t, p, told{220, "EHLO mx.org"}, told{250, "MAIL FROM:<>"}, told{250, "RCPT TO:<a@b>"}, told{250, "DATA"}, told{354, b.said + "\r\n."}, told{250, "QUIT"})
	}
}

// What is handed on to a second post is taken in there as it was taken in here.
func TestAnswerIsTakenInByAPost(t *testing.T) {
	for _, lines := range []string{".", "|.", "||.", "..|.", "..a||.b|...c|.", "text|..|text|.", " |.", strings.Repeat(".", 99) + "|."} {
		p, other := greeted(t, wideConfig(), ""), openWith(t, wideConfig(), "")
		talk(t, p, 0, beginBody+"|"+lines, bodyBegan+"|250 kept 1")
		want := queueOf(t, p)
		dials(t, p, 1)
		_, heard, _ := other.Connect(1)
		for heard != "" {
			last := heard[strings.LastIndex(heard[:len(heard)-2], "\n")+1:]
			code := int(last[0]-'0')*100 + int(last[1]-'0')*10 + int(last[2]-'0')
			said, errno := p.Answer(code)
			if errno != api.OK {
				t.Fatalf("P12: Answer(%d): %d", code, errno)
			}
			heard = ""
			if said != "" {
				heard, _ = other.Receive(0, said)
			}
		}
		holdsMails(t, p)
		holdsMails(t, other, want...)
	}
}

func TestAnswerLongHost(t *testing.T) {
	label := strings.Repeat("H", api.MaxLabel)
	c := goodConfig()
	c.Host = label + "." + label[1:]
	p := openWith(t, c, toThree())
	dials(t, p, 1)
	answers(t, p, told{220, "EHLO " + c.Host})
}

func TestAnswerBeyondRoom(t *testing.T) {
	for _, room := range []int{0, len(toThree()) - 1, len(toThree()), len(toThree()) + 1} {
		c := goodConfig()
		c.Room = room
		p := openWith(t, c, toThree())
		dials(t, p, 1)
		for _, code := range []int{220, 250, 250, 250, 550, 450, 354, 250, 221} {
			p.Answer(code)
		}
		want := toThree() + records(goneRecord(1, 0), failedRecord(3, 1, 1))
		if got := keptOf(t, p); got != want {
			t.Errorf("P12: with Room %d Kept = %x, want %x", room, got, want)
		}
		dials(t, p, 2)
		for _, code := range []int{220, 250, 550} {
			p.Answer(code)
		}
		hangs(t, p)
		want += record(failedRecord(3, 2, 0))
		if got := keptOf(t, p); got != want {
			t.Errorf("P12: with Room %d Kept = %x, want %x", room, got, want)
		}
		holdsMails(t, openWith(t, c, want), queueOf(t, p)...)
	}
}

// The records of a talk fill the room that mail would have had.
func TestAnswerTakesRoom(t *testing.T) {
	first, second := record(mailRecord(1, 0, "q@r", "", "b@a.org")), record(mailRecord(2, 0, "q@r", "", "b@a.org"))
	for _, spare := range []int{-1, 0} {
		c := goodConfig()
		c.Room = len(first) + len(record(goneRecord(1, 0))) + len(second) + spare
		p := greeted(t, c, "")
		comes(t, p, "q@r", "1")
		dials(t, p, 1)
		for _, code := range []int{220, 250, 250, 250, 354, 250} {
			p.Answer(code)
		}
		hangs(t, p)
		want := "452 room"
		if spare == 0 {
			want = "250 kept 2"
		}
		talk(t, p, 0, beginBody+"|.", bodyBegan+"|"+want)
	}
}

func TestAnswerIsNewMemory(t *testing.T) {
	kept := record(mailRecord(1, 3, "sender@home.org", "some body", "first@host.org"))
	p := openWith(t, goodConfig(), kept)
	texts := append(textsOf(queueOf(t, p)), kept, keptOf(t, p))
	for now := 5; now < 20; now += 5 {
		ticks(t, p, now, api.OK)
		dials(t, p, 1)
		for _, code := range []int{220, 250, 250, 250, 354, 450} {
			said, _ := p.Answer(code)
			texts = append(texts, said)
		}
		hangs(t, p)
	}
	for i, a := range texts {
		for j, b := range texts {
			if a == "" || i != j && overlap(a, b) {
				t.Errorf("P2: the texts %d (%q) and %d (%q) share memory", i, a, j, b)
			}
		}
	}
}
