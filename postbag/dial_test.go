package postbag_test

import (
	"math"
	"slices"
	"strconv"
	"strings"
	"testing"

	"postbag/api"
	"postbag/postbag"
)

func dials(t testing.TB, p *postbag.Post, want int) {
	t.Helper()
	if id, errno := p.Dial(); id != want || errno != api.OK {
		t.Errorf("P12: Dial = %d, %d, want %d", id, errno, want)
	}
}

func refusesDial(t testing.TB, p *postbag.Post, want api.Errno) {
	t.Helper()
	if id, errno := p.Dial(); id != 0 || errno != want {
		t.Errorf("P12: Dial = %d, %d, want %d", id, errno, want)
	}
}

func hangs(t testing.TB, p *postbag.Post) {
	t.Helper()
	if errno := p.Hang(); errno != api.OK {
		t.Errorf("P12: Hang = %d", errno)
	}
}

// isIdle holds that no mail is being handed on, whatever is answered.
func isIdle(t testing.TB, p *postbag.Post) {
	t.Helper()
	for _, code := range []int{math.MinInt, -1, 0, 199, 200, 250, 354, 550, 599, 600, math.MaxInt} {
		if said, errno := p.Answer(code); said != "" || errno != api.ErrIdle {
			t.Errorf("P12: Answer(%d) = %q, %d", code, said, errno)
		}
	}
	if errno := p.Hang(); errno != api.ErrIdle {
		t.Errorf("P12: Hang = %d", errno)
	}
}

func TestDialNone(t *testing.T) {
	for _, kept := range []string{"", "no record", records(fromX, goneRecord(1, 0, 1, 2)), records(mailRecord(1, 3, "", "", "a@b"), failedRecord(4, 1, 0))} {
		p := openWith(t, goodConfig(), kept)
		before := keptOf(t, p)
		for range 2 {
			refusesDial(t, p, api.ErrIdle)
			isIdle(t, p)
		}
		ticks(t, p, 900, api.OK)
		refusesDial(t, p, api.ErrIdle)
		if got := keptOf(t, p); got != before {
			t.Errorf("P12: Kept = %x, want %x", got, before)
		}
	}
}

func TestDialWhileBusy(t *testing.T) {
	p := openWith(t, goodConfig(), records(fromX, fromNo))
	dials(t, p, 1)
	for _, code := range []int{220, 250, 250, 250, 250, 250, 354, 250} {
		refusesDial(t, p, api.ErrBusy)
		p.Answer(code)
	}
	refusesDial(t, p, api.ErrBusy)
	if said, errno := p.Answer(221); said != "" || errno != api.OK {
		t.Errorf("P12: Answer = %q, %d", said, errno)
	}
	isIdle(t, p)
	dials(t, p, 2)
	refusesDial(t, p, api.ErrBusy)
	hangs(t, p)
	isIdle(t, p)
	refusesDial(t, p, api.ErrIdle)
	lone := openWith(t, goodConfig(), record(fromX))
	dials(t, lone, 1)
	refusesDial(t, lone, api.ErrBusy)
}

// A mail that just came is due at once, while the time stands still.
func TestDialWhatCame(t *testing.T) {
	p := greeted(t, goodConfig(), "")
	refusesDial(t, p, api.ErrIdle)
	comes(t, p, "", "1")
	dials(t, p, 1)
	comes(t, p, "", "2")
	refusesDial(t, p, api.ErrBusy)
	hangs(t, p)
	dials(t, p, 2)
	hangs(t, p)
	refusesDial(t, p, api.ErrIdle)
}

func isDue(t testing.TB, p *pair, want ...int) {
	t.Helper()
	if got := p.dueNow(); !slices.Equal(got, want) {
		t.Errorf("P12: due are %v, want %v", got, want)
	}
}

// Mail that was read is due since Open, whenever it came: the least ID is first.
func TestDialOrderOfWhatWasRead(t *testing.T) {
	kept := records(mailRecord(1, 3, "x@y", "", "a@b"), mailRecord(2, 5, "", "", "a@b"), mailRecord(3, 5, "", "", "a@b"), goneRecord(2, 0), failedRecord(20, 1, 0), mailRecord(5, 20, "", "", "a@b"))
	isDue(t, pairOf(t, goodConfig(), kept), 3, 4, 5)
}

// What came behind Open at the same time is due equally long as what was read.
func TestDialEquallyLong(t *testing.T) {
	p := pairOf(t, wideConfig(), record(mailRecord(1, 3, "", "", "a@b")))
	p.connect(1)
	p.receive(0, crlf("HELO x"))
	for range 20 {
		p.receive(0, crlf(beginBody+"|."))
	}
	var want []int
	for id := 1; id <= 21; id++ {
		want = append(want, id)
	}
	isDue(t, p, want...)
	p.tick(7)
	isDue(t, p)
	p.tick(8)
	isDue(t, p, want...)
	p.tick(30)
	isDue(t, p, want...)
}

// Who waits longer is ahead, not who came first: what was put off to 5 is behind what came at 3, and ahead of what came at 6.
func TestDialOrderByDueTimes(t *testing.T) {
	p := pairOf(t, goodConfig(), "")
	p.connect(1)
	p.receive(0, crlf("HELO x|"+beginBody+"|."))
	isDue(t, p, 1)
	p.tick(3)
	p.receive(0, crlf(beginBody+"|."))
	p.tick(5)
	p.receive(0, crlf(beginBody+"|."))
	p.tick(6)
	p.receive(0, crlf(beginBody+"|."))
	isDue(t, p, 2, 1, 3, 4)
	p.tick(10)
	isDue(t, p)
	p.tick(11)
	isDue(t, p, 1, 2, 3, 4)
}

// A return is due when it comes, and behind those that have been due longer.
func TestDialReturns(t *testing.T) {
	p := pairOf(t, goodConfig(), records(mailRecord(1, 0, "x@y", "", "a@b"), mailRecord(2, 40, "", "", "a@b")))
	p.tick(50)
	isDue(t, p, 2, 3)
	p.tick(54)
	isDue(t, p)
	p.tick(55)
	isDue(t, p, 2, 3)
}

func TestDialWaits(t *testing.T) {
	for _, waits := range [][]int{{5}, {1}, {5, 7}, {9, 2, 4}, {1, 2, 3, 4, 5}, {3, 3, 1}} {
		c := goodConfig()
		c.Waits, c.Life = waits, api.MaxTime
		p := openWith(t, c, record(mailRecord(1, 100, "", "", "a@b")))
		now := 100
		for failure := range len(waits) + 4 {
			dials(t, p, 1)
			hangs(t, p)
			wait := waits[min(failure, len(waits)-1)]
			refusesDial(t, p, api.ErrIdle)
			ticks(t, p, now+wait-1, api.OK)
			refusesDial(t, p, api.ErrIdle)
			now += wait
			ticks(t, p, now, api.OK)
		}
	}
}

// The wait begins when the talk is over, not when the mail was due.
func TestDialWaitsBehindTheTime(t *testing.T) {
	c := goodConfig()
	c.Waits = []int{5, 7}
	p := openWith(t, c, record(mailRecord(1, 0, "", "", "a@b")))
	ticks(t, p, 3, api.OK)
	dials(t, p, 1)
	hangs(t, p)
	ticks(t, p, 7, api.OK)
	refusesDial(t, p, api.ErrIdle)
	ticks(t, p, 20, api.OK)
	dials(t, p, 1)
	hangs(t, p)
	ticks(t, p, 26, api.OK)
	refusesDial(t, p, api.ErrIdle)
	ticks(t, p, 27, api.OK)
	dials(t, p, 1)
}

// Each mail has failures of its own, and they are forgotten when a post is opened.
func TestDialWaitsOfEachMail(t *testing.T) {
	c := goodConfig()
	c.Waits = []int{2, 10, 100}
	c.Life = 1000
	p := pairOf(t, c, "")
	p.connect(1)
	p.receive(0, crlf("HELO x|"+beginBody+"|."))
	isDue(t, p, 1)
	p.tick(2)
	p.receive(0, crlf(beginBody+"|."))
	isDue(t, p, 1, 2)
	p.tick(4)
	isDue(t, p, 2)
	p.tick(12)
	isDue(t, p, 1)
	p.tick(14)
	isDue(t, p, 2)
	again := p.again(c)
	isDue(t, again, 1, 2)
	again.tick(4)
	isDue(t, again, 1, 2)
	p.tick(111)
	isDue(t, p)
	p.tick(112)
	isDue(t, p, 1)
	p.tick(114)
	isDue(t, p, 2)
	p.tick(211)
	isDue(t, p)
	p.tick(213)
	isDue(t, p, 1)
}

// Also a talk in which some have it is a failure for those who are still there.
func TestDialWaitsBehindHalfASuccess(t *testing.T) {
	c := goodConfig()
	c.Waits = []int{5, 7}
	p := pairOf(t, c, records(mailRecord(1, 0, "", "", "a@b", "c@d")))
	p.dial()
	for _, code := range []int{220, 250, 250, 250, 450, 354, 250, 221} {
		p.answer(code)
	}
	holdsMails(t, p.post, api.Mail{ID: 1, To: []string{"c@d"}})
	p.tick(4)
	isDue(t, p)
	p.tick(5)
	isDue(t, p, 1)
	p.tick(11)
	isDue(t, p)
	p.tick(12)
	isDue(t, p, 1)
}

// At the end of all time a mail may be due when that never comes.
func TestDialAtTheEndOfTime(t *testing.T) {
	c := goodConfig()
	c.Waits, c.Life = []int{1, api.MaxTime}, api.MaxTime
	p := openWith(t, c, record(mailRecord(1, api.MaxTime-1, "", "", "a@b")))
	dials(t, p, 1)
	hangs(t, p)
	refusesDial(t, p, api.ErrIdle)
	ticks(t, p, api.MaxTime, api.OK)
	dials(t, p, 1)
	hangs(t, p)
	ticks(t, p, api.MaxTime, api.OK)
	refusesDial(t, p, api.ErrIdle)
	holdsMails(t, p, api.Mail{ID: 1, Time: api.MaxTime - 1, To: []string{"a@b"}})
}

// The lists are the caller's again when Open has answered.
func TestDialDoesNotHoldWaits(t *testing.T) {
	c := goodConfig()
	c.Waits = []int{5, 7}
	p := openWith(t, c, record(mailRecord(1, 0, "", "", "a@b")))
	c.Waits[0], c.Waits[1] = 1, 1
	dials(t, p, 1)
	hangs(t, p)
	ticks(t, p, 4, api.OK)
	refusesDial(t, p, api.ErrIdle)
	ticks(t, p, 5, api.OK)
	dials(t, p, 1)
}

func TestHandingOfNilPost(t *testing.T) {
	var p *postbag.Post
	for _, n := range []int{math.MinInt, -1, 0, 1, 199, 200, 250, 599, 600, api.MaxTime, api.MaxTime + 1, math.MaxInt} {
		if errno := p.Tick(n); errno != api.ErrNil {
			t.Errorf("P1: Tick(%d) = %d", n, errno)
		}
		if id, errno := p.Dial(); id != 0 || errno != api.ErrNil {
			t.Errorf("P1: Dial = %d, %d", id, errno)
		}
		if said, errno := p.Answer(n); said != "" || errno != api.ErrNil {
			t.Errorf("P1: Answer(%d) = %q, %d", n, said, errno)
		}
		if errno := p.Hang(); errno != api.ErrNil {
			t.Errorf("P1: Hang = %d", errno)
		}
	}
}

func TestHandingOfPostsIsApart(t *testing.T) {
	other := goodConfig()
	other.Host, other.Waits, other.Life = "other.org", []int{20}, 10
	first, second := openWith(t, goodConfig(), record(fromX)), openWith(t, other, record(fromX))
	dials(t, first, 1)
	isIdle(t, second)
	ticks(t, second, 4, api.OK)
	dials(t, second, 1)
	for i, want := range []string{"EHLO *", "MAIL FROM:<x@y>", "RCPT TO:<a@b>"} {
		for host, p := range map[string]*postbag.Post{"mx.org": first, "other.org": second} {
			if said, errno := p.Answer(220 + i); said != strings.ReplaceAll(want, "*", host)+"\r\n" || errno != api.OK {
				t.Errorf("P2: Answer = %q, %d, want %q", said, errno, want)
			}
		}
	}
	first.Answer(550)
	hangs(t, first)
	refusesDial(t, second, api.ErrBusy)
	hangs(t, second)
	if got := keptOf(t, second); got != record(fromX) {
		t.Errorf("P2: another post keeps %x", got)
	}
	ticks(t, second, 13, api.OK)
	ticks(t, first, 3, api.OK)
	holdsMails(t, second, api.Mail{ID: 2, Time: 13, To: []string{"x@y"}, Body: "Not delivered:\r\na@b\r\nc@d\r\ne@f"})
	holdsMails(t, first, api.Mail{ID: 1, Time: 3, From: "x@y", To: []string{"c@d", "e@f"}, Body: "hi"}, api.Mail{ID: 2, Time: 3, To: []string{"x@y"}, Body: "Not delivered:\r\na@b"})
}

// Many mails, so that no order but the document's would be right by chance.
func TestDialMany(t *testing.T) {
	p := greeted(t, wideConfig(), "")
	for id := 1; id <= 200; id++ {
		comes(t, p, "", strconv.Itoa(id))
		if id%20 == 0 {
			ticks(t, p, id/20, api.OK)
		}
	}
	for id := 1; id <= 200; id++ {
		dials(t, p, id)
		hangs(t, p)
	}
	refusesDial(t, p, api.ErrIdle)
}
