package postbag_test

import (
	"math/rand"
	"slices"
	"strconv"
	"strings"
	"testing"

	"postbag/api"
	"postbag/postbag"
)

// contentsOf cuts what is kept into its contents.
func contentsOf(kept string) []string {
	var contents []string
	for len(kept) > 0 {
		size := int(kept[0])<<24 | int(kept[1])<<16 | int(kept[2])<<8 | int(kept[3])
		contents = append(contents, kept[8:8+size])
		kept = kept[8+size:]
	}
	return contents
}

// seat is a recipient of a mail.
type seat struct {
	id, place int
}

// leavings counts by the records alone how often each recipient leaves.
func leavings(kept string) map[seat]int {
	times := map[seat]int{}
	for _, content := range contentsOf(kept) {
		switch content[0] {
		case 'G':
			content = content[1:]
		case 'F':
			content = content[5:]
		default:
			continue
		}
		id := int(content[0])<<24 | int(content[1])<<16 | int(content[2])<<8 | int(content[3])
		for _, place := range []byte(content[5:]) {
			times[seat{id, int(place)}]++
		}
	}
	return times
}

func leavesOnce(t testing.TB, kept string) {
	t.Helper()
	for s, times := range leavings(kept) {
		if times != 1 {
			t.Errorf("P16: recipient %d leaves mail %d %d times: %x", s.place, s.id, times, kept)
		}
	}
}

// allLeave holds that each recipient of each mail has left it once, and who failed was told in one return.
func allLeave(t testing.TB, kept string) {
	t.Helper()
	leavesOnce(t, kept)
	times := leavings(kept)
	read := wantRead(kept)
	if read.size != len(kept) {
		t.Fatalf("P14: of %d bytes %d are read", len(kept), read.size)
	}
	for _, m := range read.mails {
		for place := range m.To {
			if times[seat{m.ID, place}] != 1 {
				t.Errorf("P16: %s of mail %d leaves it %d times", m.To[place], m.ID, times[seat{m.ID, place}])
			}
		}
	}
}

// P14: what is kept is cut anywhere behind where each mail was kept.
func TestCutAnywhere(t *testing.T) {
	c := wideConfig()
	c.To = 3
	p := pairOf(t, c, "")
	p.connect(1)
	p.receive(0, crlf("HELO x"))
	sizes := map[int]int{}
	mail := func(id int) {
		said := p.receive(0, crlf("MAIL FROM:<me@here>|RCPT TO:<p@a.org>|RCPT TO:<q@a.org>|RCPT TO:<r@a.org>|DATA|text|."))
		if !strings.HasSuffix(said, "250 kept "+strconv.Itoa(id)+"\r\n") {
			t.Fatalf("P10: mail %d: %q", id, said)
		}
		sizes[id] = len(keptOf(t, p.post))
	}
	hand := func(codes ...int) {
		p.dial()
		for _, code := range codes {
			p.answer(code)
		}
		p.hang()
	}
	mail(1)
	hand(220, 250, 250, 250, 550, 450, 354, 250)
	mail(3)
	hand(220, 250, 250, 250)
	p.tick(3)
	hand(220, 250, 250, 550, 550, 250, 354, 250)
	p.tick(6)
	mail(5)
	p.tick(50)
	p.tick(56)
	all := keptOf(t, p.post)
	leavesOnce(t, all)
	to := []string{"p@a.org", "q@a.org", "r@a.org"}
	for id, size := range sizes {
		for cut := size; cut <= len(all); cut++ {
			again := openWith(t, c, all[:cut])
			times := leavings(keptOf(t, again))
			var want []string
			for place, name := range to {
				if times[seat{id, place}] == 0 {
					want = append(want, name)
				}
			}
			queue := queueOf(t, again)
			at := slices.IndexFunc(queue, func(m api.Mail) bool { return m.ID == id })
			if want == nil && at < 0 {
				continue
			}
			if at < 0 || !slices.Equal(queue[at].To, want) || queue[at].From != "me@here" || queue[at].Body != "text" {
				t.Errorf("P14: mail %d of %d bytes: %v, want it to %v", id, cut, queue, want)
			}
		}
	}
}

// Cut between what is gone and what failed, a post that is opened goes on with those who failed.
func TestCutBetweenGoneAndFailed(t *testing.T) {
	p := openWith(t, goodConfig(), toThree())
	dials(t, p, 1)
	for _, code := range []int{220, 250, 250, 250, 550, 450, 354, 250, 221} {
		p.Answer(code)
	}
	kept := keptOf(t, p)
	between := kept[:len(kept)-len(record(failedRecord(3, 1, 1)))]
	again := openWith(t, goodConfig(), between)
	holdsMails(t, again, api.Mail{ID: 1, Time: 3, From: "x@y", To: []string{"c@d", "e@f"}})
	dials(t, again, 1)
	answers(t, again, told{220, "EHLO mx.org"}, told{250, "MAIL FROM:<x@y>"}, told{250, "RCPT TO:<c@d>"}, told{550, "RCPT TO:<e@f>"})
}

// Connections go on while a mail is handed on: what comes then is another mail, and what is begun there stays as it is.
func TestHandingBesideConnections(t *testing.T) {
	p := pairOf(t, wideConfig(), "")
	for range 3 {
		p.connect(1)
	}
	p.receive(0, crlf("HELO x|MAIL FROM:<me@here>|RCPT TO:<p@a.org>|RCPT TO:<q@a.org>|DATA|one|."))
	p.receive(1, crlf("EHLO y|MAIL FROM:<>|RCPT TO:<r@a.org>|DATA|half"))
	p.dial()
	for i, code := range []int{220, 250, 250, 250, 550, 354, 250} {
		p.answer(code)
		p.receive(0, crlf("NOOP|"+beginBody+"|"+strconv.Itoa(i)+"|."))
		p.receive(2, "HELO x\r\nMAIL FR")
		p.receive(2, "OM:<>\r\n")
	}
	p.receive(1, crlf("more|."))
	p.answer(221)
	p.close(0)
	if got := queueOf(t, p.post); len(got) != 9 || got[7].Body != "half\r\nmore" || got[8].Body != "Not delivered:\r\nq@a.org" || got[8].ID != 10 {
		t.Errorf("P12: Queue = %v", got)
	}
	isDue(t, p, 2, 3, 4, 5, 6, 7, 8, 9, 10)
	p.receive(1, crlf("QUIT"))
	p.tick(50)
	p.tick(100)
	allLeave(t, keptOf(t, p.post))
}

func randomCode(r *rand.Rand) int {
	switch r.Intn(12) {
	case 0:
		return 400 + r.Intn(100)
	case 1:
		return 500 + r.Intn(100)
	case 2:
		return 300 + r.Intn(100)
	case 3:
		return 190 + r.Intn(420)
	}
	return 200 + r.Intn(100)
}

// fitting is mostly such an answer as brings a talk forward.
func (p *pair) fitting(r *rand.Rand) int {
	switch {
	case r.Intn(4) == 0:
		return randomCode(r)
	case p.want.handing.busy != 0 && p.want.script().last == "DATA\r\n":
		return 354
	}
	return 250
}

// step makes one call at random.
func (p *pair) step(r *rand.Rand, talks []string) {
	p.t.Helper()
	switch r.Intn(20) {
	case 0, 1, 2:
		p.tick(p.want.handing.time + r.Intn(5) - r.Intn(20)/19)
	case 3, 4:
		p.dial()
	case 5:
		if r.Intn(4) == 0 {
			p.hang()
		}
	case 6:
		if r.Intn(20) == 0 {
			p.close(r.Intn(len(talks)))
		}
	case 7, 8, 9, 10:
		conn := r.Intn(len(talks))
		size := min(len(talks[conn]), r.Intn(120))
		piece := talks[conn][:size]
		talks[conn] = talks[conn][size:]
		p.receive(conn, piece)
	default:
		p.answer(p.fitting(r))
	}
}

func randomWaits(r *rand.Rand) []int {
	waits := make([]int, 1+r.Intn(api.MaxWaits))
	for i := range waits {
		waits[i] = 1 + r.Intn(8)
	}
	return waits
}

// seenMails are all that stood in a queue, as they were seen first, by their IDs.
type seenMails struct {
	mails map[int]api.Mail
}

func (s seenMails) see(queue []api.Mail) {
	for _, m := range queue {
		if _, ok := s.mails[m.ID]; !ok {
			s.mails[m.ID] = m
		}
	}
}

// failuresAreTold holds that of each F of a mail with a sender just one return was seen, with just those who failed, and no others.
func (s seenMails) failuresAreTold(t testing.TB, kept string) {
	t.Helper()
	next := 1
	for _, content := range contentsOf(kept) {
		switch content[0] {
		case 'M':
			next++
		case 'F':
			id := int(content[5])<<24 | int(content[6])<<16 | int(content[7])<<8 | int(content[8])
			m := wantRead(kept).mails[id-1]
			if m.From == "" {
				continue
			}
			want := "Not delivered:"
			for _, place := range []byte(content[10:]) {
				want += "\r\n" + m.To[place]
			}
			back, ok := s.mails[next]
			if !ok || back.Body != want || back.From != "" || !slices.Equal(back.To, []string{m.From}) {
				t.Errorf("P16: of %q of mail %v there is the return %v", want, m.Mail, back)
			}
			next++
		}
	}
	for id := range s.mails {
		if id >= next {
			t.Errorf("P16: there is a mail %v of nothing", s.mails[id])
		}
	}
}

// All calls side by side, at random; in the end time goes on, till all mail is gone.
func TestHandingAtRandom(t *testing.T) {
	r := rand.New(rand.NewSource(4))
	kinds := map[byte]int{}
	for range 400 {
		c := randomConfig(r)
		c.Waits, c.Life = randomWaits(r), 5+r.Intn(60)
		p := pairOf(t, c, randomKept(r))
		seen := seenMails{map[int]api.Mail{}}
		talks := make([]string, 1+r.Intn(3))
		for conn := range talks {
			talks[conn] = "HELO x\r\n" + randomTalk(r) + randomTalk(r)
			p.connect([]int{1, 257, 10<<24 + 7}[r.Intn(3)])
		}
		seen.see(wantRead(keptOf(t, p.post)).allMails())
		for range 150 {
			p.step(r, talks)
			seen.see(queueOf(t, p.post))
		}
		if r.Intn(2) == 0 {
			p = p.again(c)
		}
		p.post.Hang()
		p.want.hang()
		seen.see(queueOf(t, p.post))
		for range 2 {
			p.tick(p.want.handing.time + c.Life)
			seen.see(queueOf(t, p.post))
		}
		holdsMails(t, p.post)
		refusesDial(t, p.post, api.ErrIdle)
		allLeave(t, keptOf(t, p.post))
		seen.failuresAreTold(t, keptOf(t, p.post))
		for _, content := range contentsOf(keptOf(t, p.post)) {
			kinds[content[0]]++
		}
	}
	if kinds['M'] < 1000 || kinds['G'] < 400 || kinds['F'] < 1000 {
		t.Errorf("too little came of it: %v", kinds)
	}
}

// allMails gives those too whom all have left.
func (b *wantedBag) allMails() []api.Mail {
	var all []api.Mail
	for _, m := range b.mails {
		all = append(all, m.Mail)
	}
	return all
}

// Without an end of failures all mail goes back, and the returns go away, too.
func TestAllMailIsGoneInTheEnd(t *testing.T) {
	c := wideConfig()
	c.Waits, c.Life = []int{1, 3}, 40
	p := pairOf(t, c, "")
	p.connect(1)
	p.receive(0, crlf("HELO x"))
	for now := range 20 {
		p.tick(now)
		p.receive(0, crlf("MAIL FROM:<me"+strconv.Itoa(now%3)+"@here>|RCPT TO:<p@a.org>|RCPT TO:<q@a.org>|DATA|.|"+"MAIL FROM:<>|RCPT TO:<p@a.org>|DATA|."))
	}
	for now := 20; now <= 19+2*c.Life; now++ {
		if len(queueOf(t, p.post)) == 0 {
			t.Errorf("P16: at %d there is no mail any more", now)
		}
		p.tick(now)
		p.dueNow()
	}
	holdsMails(t, p.post)
	allLeave(t, keptOf(t, p.post))
}

// Whatever a post did, one that is opened with what it keeps is such that all that can be asked of it is the same from then on.
func TestOpenedPostGoesOn(t *testing.T) {
	r := rand.New(rand.NewSource(5))
	for range 150 {
		c := fullConfig()
		c.Room, c.Waits = api.MaxRoom, randomWaits(r)
		p := pairOf(t, c, randomKept(r))
		talks := []string{"HELO x\r\n" + randomTalk(r)}
		p.connect(1)
		for range 60 {
			p.step(r, talks)
		}
		kept := keptOf(t, p.post)
		for cut := range len(kept) + 1 {
			again := pairOf(t, c, kept[:cut])
			again.holds()
			if cut%10 == 0 {
				again.dueNow()
			}
		}
	}
}

// FuzzHanding takes each byte for a call, on a post with some mail.
func FuzzHanding(f *testing.F) {
	f.Add([]byte("d\x02\x02\x02\x02\x02\x02\x03\x02\x02"))
	f.Add([]byte("d\x02\x02\x02\x05\x04\x02\x03\x02htttd"))
	f.Add([]byte("tdh\x13dmd\x02\x02\x05hTTmdmh"))
	f.Fuzz(func(t *testing.T, calls []byte) {
		c := goodConfig()
		c.Waits = []int{1, 3}
		c.Life = 20
		p := pairOf(t, c, records(fromX, fromNo, goneRecord(1, 1)))
		p.connect(1)
		p.receive(0, crlf("HELO x"))
		for _, call := range calls[:min(len(calls), 200)] {
			switch {
			case call == 'd':
				p.dial()
			case call == 'h':
				p.hang()
			case call == 'm':
				p.receive(0, crlf(beginBody+"|.text|."))
			case call == 't':
				p.tick(p.want.handing.time + 1)
			case call == 'T':
				p.tick(p.want.handing.time + 10)
			case call < 8:
				p.answer(100*int(call) + len(calls)%100)
			default:
				p.tick(int(call))
			}
		}
		p.again(c).holds()
		leavesOnce(t, keptOf(t, p.post))
	})
}

// Posts may be used side by side, each by one at a time.
func TestPostsSideBySide(t *testing.T) {
	const posts = 8
	kept := make([]string, posts)
	done := make(chan int)
	for i := range posts {
		go func() {
			p, _ := postbag.Open(fullConfig(), "")
			p.Connect(257)
			p.Receive(0, "HELO x\r\n")
			for now := range 100 {
				p.Tick(now)
				p.Receive(0, crlf("MAIL FROM:<me@here>|RCPT TO:<p@x>|RCPT TO:<q@x>|DATA|.x|."))
				p.Dial()
				for _, code := range []int{220, 250, 250, 250, 550, 354, 250 + 100*(now%4)} {
					p.Answer(code)
				}
				p.Hang()
			}
			kept[i], _ = p.Kept()
			done <- i
		}()
	}
	for range posts {
		<-done
	}
	for i := range posts {
		if kept[i] == "" || kept[i] != kept[0] {
			t.Errorf("P2: post %d keeps %x, the first %x", i, kept[i], kept[0])
		}
	}
}
