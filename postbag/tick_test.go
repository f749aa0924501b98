package postbag_test

import (
	"math"
	"strconv"
	"strings"
	"testing"

	"postbag/api"
	"postbag/postbag"
)

func ticks(t testing.TB, p *postbag.Post, now int, want api.Errno) {
	t.Helper()
	if errno := p.Tick(now); errno != want {
		t.Errorf("P11: Tick(%d) = %d, want %d", now, errno, want)
	}
}

// holdsMails holds what is in the queue.
func holdsMails(t testing.TB, p *postbag.Post, want ...api.Mail) {
	t.Helper()
	if got := queueOf(t, p); !sameMails(got, want) {
		t.Errorf("P6: Queue = %v, want %v", got, want)
	}
}

// comes has a mail without a body come in to b@a.org, on a connection that is greeted.
func comes(t testing.TB, p *postbag.Post, from, id string) {
	t.Helper()
	talk(t, p, 0, "MAIL FROM:<"+from+">|RCPT TO:<b@a.org>|DATA|.", bodyBegan+"|250 kept "+id)
}

func TestTickNumbers(t *testing.T) {
	kept := records(mailRecord(1, 7, "", "", "a@b"))
	for _, start := range []struct {
		kept string
		time int
	}{{"", 0}, {kept, 7}, {kept + record(failedRecord(30, 1, 0)), 30}, {record(mailRecord(1, api.MaxTime, "", "", "a@b")), api.MaxTime}} {
		for _, now := range []int{math.MinInt, -1 << 32, -api.MaxTime, -1, 0, 1, 6, 7, 8, 29, 30, 31, api.MaxTime - 1, api.MaxTime, api.MaxTime + 1, 1 << 32, 1<<32 + 31, math.MaxInt} {
			p := openWith(t, goodConfig(), start.kept)
			if now < start.time || now > api.MaxTime {
				ticks(t, p, now, api.ErrArg)
				if keptOf(t, p) != start.kept {
					t.Errorf("P1: Tick(%d) changed what is kept", now)
				}
				ticks(t, p, start.time, api.OK)
				continue
			}
			ticks(t, p, now, api.OK)
			ticks(t, p, now-1, api.ErrArg)
			ticks(t, p, now, api.OK)
			ticks(t, p, api.MaxTime+1, api.ErrArg)
			ticks(t, p, api.MaxTime, api.OK)
			ticks(t, p, api.MaxTime, api.OK)
			ticks(t, p, api.MaxTime-1, api.ErrArg)
		}
	}
}

// A number that may not be is told ahead of a mail that is being handed on.
func TestTickWhileBusy(t *testing.T) {
	p := pairOf(t, goodConfig(), records(fromX, fromNo))
	p.dial()
	for _, code := range []int{220, 250, 250, 250, 250, 250, 354, 250} {
		for _, now := range []int{5, 6, 55, 100, api.MaxTime} {
			ticks(t, p.post, now, api.ErrBusy)
		}
		for _, now := range []int{math.MinInt, -1, 0, 4, api.MaxTime + 1, math.MaxInt} {
			ticks(t, p.post, now, api.ErrArg)
		}
		p.holds()
		p.answer(code)
	}
	p.answer(221)
	if errno := p.tick(5); errno != api.OK {
		t.Errorf("P11: Tick behind a talk: %d", errno)
	}
	p.dial()
	ticks(t, p.post, 6, api.ErrBusy)
	p.hang()
	p.tick(6)
	ticks(t, p.post, 5, api.ErrArg)
}

// The time is that of mail that comes then.
func TestTickIsTheTimeOfMail(t *testing.T) {
	p := greeted(t, goodConfig(), "")
	ticks(t, p, 12, api.OK)
	comes(t, p, "", "1")
	ticks(t, p, 12, api.OK)
	comes(t, p, "q@r", "2")
	ticks(t, p, 40, api.OK)
	ticks(t, p, 39, api.ErrArg)
	comes(t, p, "", "3")
	want := records(mailRecord(1, 12, "", "", "b@a.org"), mailRecord(2, 12, "q@r", "", "b@a.org"), mailRecord(3, 40, "", "", "b@a.org"))
	if got := keptOf(t, p); got != want {
		t.Errorf("P10: Kept = %x, want %x", got, want)
	}
	again := openWith(t, goodConfig(), want)
	ticks(t, again, 39, api.ErrArg)
	ticks(t, again, 40, api.OK)
}

// A time at which nothing was written is not known any more when a post is opened.
func TestTickWritesNoTime(t *testing.T) {
	p := openWith(t, goodConfig(), record(fromX))
	ticks(t, p, 52, api.OK)
	if got := keptOf(t, p); got != record(fromX) {
		t.Errorf("P11: Kept = %x, want %x", got, record(fromX))
	}
	ticks(t, openWith(t, goodConfig(), keptOf(t, p)), 3, api.OK)
}

func TestTickLife(t *testing.T) {
	for _, life := range []int{1, 2, 50, api.MaxTime - 3, api.MaxTime} {
		c := goodConfig()
		c.Life = life
		for _, now := range []int{3, 3 + life - 1, 3 + life, 3 + life + 1, api.MaxTime} {
			if now > api.MaxTime {
				continue
			}
			p := openWith(t, c, record(fromX))
			ticks(t, p, now, api.OK)
			if now-3 < life {
				if got := keptOf(t, p); got != record(fromX) {
					t.Errorf("P11: with Life %d at %d Kept = %x", life, now, got)
				}
				continue
			}
			want := records(fromX, failedRecord(now, 1, 0, 1, 2))
			if got := keptOf(t, p); got != want {
				t.Errorf("P11: with Life %d at %d Kept = %x, want %x", life, now, got, want)
			}
			holdsMails(t, p, api.Mail{ID: 2, Time: now, To: []string{"x@y"}, Body: "Not delivered:\r\na@b\r\nc@d\r\ne@f"})
		}
	}
}

// Only those fail who are still there, by their places in the mail's record.
func TestTickFailsThoseWhoAreThere(t *testing.T) {
	kept := records(fromX, goneRecord(1, 1))
	p := openWith(t, goodConfig(), kept)
	ticks(t, p, 53, api.OK)
	if got, want := keptOf(t, p), kept+record(failedRecord(53, 1, 0, 2)); got != want {
		t.Errorf("P11: Kept = %x, want %x", got, want)
	}
	holdsMails(t, p, api.Mail{ID: 2, Time: 53, To: []string{"x@y"}, Body: "Not delivered:\r\na@b\r\ne@f"})
	gone := records(fromX, goneRecord(1, 0, 1, 2))
	p = openWith(t, goodConfig(), gone)
	ticks(t, p, api.MaxTime, api.OK)
	if got := keptOf(t, p); got != gone {
		t.Errorf("P11: Kept = %x, want %x", got, gone)
	}
}

func TestTickSeveralAtOnce(t *testing.T) {
	kept := records(mailRecord(1, 3, "x@y", "", "a@b"), mailRecord(2, 5, "", "", "a@b", "c@d"), mailRecord(3, 8, "X@y", "", "c@d"), mailRecord(4, 9, "x@y", "", "e@f"))
	p := openWith(t, goodConfig(), kept)
	ticks(t, p, 58, api.OK)
	want := kept + records(failedRecord(58, 1, 0), failedRecord(58, 2, 0, 1), failedRecord(58, 3, 0))
	if got := keptOf(t, p); got != want {
		t.Errorf("P11: Kept = %x, want %x", got, want)
	}
	holdsMails(t, p,
		api.Mail{ID: 4, Time: 9, From: "x@y", To: []string{"e@f"}},
		api.Mail{ID: 5, Time: 58, To: []string{"x@y"}, Body: "Not delivered:\r\na@b"},
		api.Mail{ID: 6, Time: 58, To: []string{"X@y"}, Body: "Not delivered:\r\nc@d"})
	holdsMails(t, openWith(t, goodConfig(), keptOf(t, p)), queueOf(t, p)...)
}

// So many that no order but the IDs' own would be right by chance.
func TestTickMany(t *testing.T) {
	p := greeted(t, wideConfig(), "")
	want := ""
	for id := 1; id <= 300; id++ {
		talk(t, p, 0, "MAIL FROM:<>|RCPT TO:<b@a.org>|DATA|.", bodyBegan+"|250 kept "+strconv.Itoa(id))
		want += record(mailRecord(id, 0, "", "", "b@a.org"))
	}
	ticks(t, p, 50, api.OK)
	for id := 1; id <= 300; id++ {
		want += record(failedRecord(50, id, 0))
	}
	if got := keptOf(t, p); got != want {
		t.Errorf("P11: 300 mails fail in another order: %x, want %x", got, want)
	}
	holdsMails(t, p)
}

// A return is as old as the failure it came of, and none comes of its own.
func TestTickReturnsGrowOld(t *testing.T) {
	p := openWith(t, goodConfig(), record(mailRecord(1, 0, "x@y", "", "a@b")))
	back := api.Mail{ID: 2, Time: 60, To: []string{"x@y"}, Body: "Not delivered:\r\na@b"}
	ticks(t, p, 60, api.OK)
	holdsMails(t, p, back)
	ticks(t, p, 60, api.OK)
	holdsMails(t, p, back)
	ticks(t, p, 109, api.OK)
	holdsMails(t, p, back)
	before := keptOf(t, p)
	ticks(t, p, 110, api.OK)
	holdsMails(t, p)
	if got, want := keptOf(t, p), before+record(failedRecord(110, 2, 0)); got != want {
		t.Errorf("P11: Kept = %x, want %x", got, want)
	}
	ticks(t, p, api.MaxTime, api.OK)
	holdsMails(t, p)
}

func TestTickWithoutSender(t *testing.T) {
	p := openWith(t, goodConfig(), records(fromX, fromNo, goneRecord(1, 0, 1, 2)))
	before := keptOf(t, p)
	ticks(t, p, 54, api.OK)
	holdsMails(t, p, api.Mail{ID: 2, Time: 5, To: []string{"a@b"}})
	ticks(t, p, 55, api.OK)
	holdsMails(t, p)
	if got, want := keptOf(t, p), before+record(failedRecord(55, 2, 0)); got != want {
		t.Errorf("P11: Kept = %x, want %x", got, want)
	}
	if id, errno := p.Dial(); id != 0 || errno != api.ErrIdle {
		t.Errorf("P12: Dial = %d, %d", id, errno)
	}
}

// What was read may be older than Life already: it fails when the time is told, not before.
func TestTickOfWhatWasReadOld(t *testing.T) {
	kept := records(mailRecord(1, 3, "", "", "a@b"), mailRecord(2, 900, "", "", "a@b"))
	p := pairOf(t, goodConfig(), kept)
	if len(queueOf(t, p.post)) != 2 {
		t.Errorf("P5: Queue = %v", queueOf(t, p.post))
	}
	if id, errno := p.dial(); id != 1 || errno != api.OK {
		t.Errorf("P12: Dial = %d, %d", id, errno)
	}
	p.hang()
	p.tick(900)
	holdsMails(t, p.post, api.Mail{ID: 2, Time: 900, To: []string{"a@b"}})
}

func TestTickBeyondRoom(t *testing.T) {
	for _, room := range []int{0, 1, len(record(fromX)), len(record(fromX)) + 1} {
		c := goodConfig()
		c.Room = room
		p := openWith(t, c, record(fromX))
		ticks(t, p, 53, api.OK)
		if got, want := keptOf(t, p), records(fromX, failedRecord(53, 1, 0, 1, 2)); got != want {
			t.Errorf("P11: with Room %d Kept = %x, want %x", room, got, want)
		}
		ticks(t, p, 103, api.OK)
		if got, want := keptOf(t, p), records(fromX, failedRecord(53, 1, 0, 1, 2), failedRecord(103, 2, 0)); got != want {
			t.Errorf("P11: with Room %d Kept = %x, want %x", room, got, want)
		}
		connect(t, p, 1)
		talk(t, p, 0, "HELO x|"+beginBody+"|.", "250 mx.org|"+bodyBegan+"|452 room")
	}
}

// A full list of the longest recipients comes back whole.
func TestTickLongestReturn(t *testing.T) {
	label := strings.Repeat("l", api.MaxLabel)
	var to []string
	for i := range api.MaxTo {
		to = append(to, label[1:]+strconv.Itoa(i)+"@"+label+"."+label[1:])
	}
	p := openWith(t, goodConfig(), record(mailRecord(1, 0, label+"@"+label, "", to...)))
	ticks(t, p, 50, api.OK)
	holdsMails(t, p, api.Mail{ID: 2, Time: 50, To: []string{label + "@" + label}, Body: "Not delivered:\r\n" + strings.Join(to, "\r\n")})
	holdsMails(t, openWith(t, goodConfig(), keptOf(t, p)), queueOf(t, p)...)
}
