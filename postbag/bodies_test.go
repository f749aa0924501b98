package postbag_test

import (
	"strconv"
	"strings"
	"testing"

	"postbag/api"
	"postbag/postbag"
)

const (
	beginBody = "MAIL FROM:<q@r>|RCPT TO:<b@a.org>|DATA"
	bodyBegan = "250 ok|250 ok|354 go"
)

// greeted gives a post with a connection that is greeted.
func greeted(t testing.TB, c api.Config, kept string) *postbag.Post {
	t.Helper()
	p := openWith(t, c, kept)
	connect(t, p, 1)
	talk(t, p, 0, "HELO x", "250 mx.org")
	return p
}

func wideConfig() api.Config {
	c := goodConfig()
	c.Size, c.Room = api.MaxSize, api.MaxRoom
	return c
}

func TestBodyTexts(t *testing.T) {
	bodies := []struct{ lines, body string }{
		{".", ""},
		{"|.", ""},
		{"||.", "\r\n"},
		{"|||.", "\r\n\r\n"},
		{"a|.", "a"},
		{"a|b|.", "a\r\nb"},
		{"a||b|.", "a\r\n\r\nb"},
		{"|a|.", "\r\na"},
		{"a||.", "a\r\n"},
		{"..|.", "."},
		{"...|.", ".."},
		{".a|.", "a"},
		{"..a|.", ".a"},
		{". |.", " "},
		{". .|.", " ."},
		{" .|.", " ."},
		{"a.|.b|c..|.", "a.\r\nb\r\nc.."},
		{"..|..|..|.", ".\r\n.\r\n."},
		{"QUIT|RSET|HELO x|NOOP|DATA|.", "QUIT\r\nRSET\r\nHELO x\r\nNOOP\r\nDATA"},
		{"\t\x01\x7e|.", "\t\x01\x7e"},
		{"." + strings.Repeat("x", 99) + "|.", strings.Repeat("x", 99)},
		{strings.Repeat("x", 100) + "|.", strings.Repeat("x", 100)},
		{strings.Repeat(".", 100) + "|.", strings.Repeat(".", 99)},
	}
	for _, b := range bodies {
		p := greeted(t, wideConfig(), "")
		talk(t, p, 0, beginBody+"|"+b.lines+"|NOOP", bodyBegan+"|250 kept 1|250 ok")
		if got, want := queueOf(t, p), []api.Mail{{ID: 1, From: "q@r", To: []string{"b@a.org"}, Body: b.body}}; !sameMails(got, want) {
			t.Errorf("P10: behind %q Queue = %v, want %v", b.lines, got, want)
		}
		if got, want := keptOf(t, p), record(mailRecord(1, 0, "q@r", b.body, "b@a.org")); got != want {
			t.Errorf("P10: behind %q Kept = %x, want %x", b.lines, got, want)
		}
	}
}

// Nothing is said within a body, not to its bad lines either.
func TestBodyIsSilent(t *testing.T) {
	p := greeted(t, goodConfig(), "")
	talk(t, p, 0, beginBody, bodyBegan)
	for _, line := range []string{"", "QUIT", "..", "bad\x00", strings.Repeat("x", 101), "\r", strings.Repeat("long", 25)} {
		talk(t, p, 0, line, "")
	}
	talk(t, p, 0, ".", "500 what")
}

func TestBodyBadLines(t *testing.T) {
	long := strings.Repeat("x", api.MaxLine)
	for _, bad := range []string{"\x00", "a\x00", "\x7f", "\x80", "\xff", "ü", "\r", "\n", ".\r", ".\n", "\n.", "\r.", "a\rb", "a\nb", ".\x00", long + "x", "." + long, strings.Repeat(".", 101), strings.Repeat("x", 5000)} {
		for _, lines := range []string{bad, "a|" + bad, bad + "|a", "|" + bad + "|", bad + "|" + bad, bad + strings.Repeat("|"+long, 20), strings.Repeat(long+"|", 20) + bad} {
			p := greeted(t, goodConfig(), record(fromX))
			talk(t, p, 0, beginBody+"|"+lines+"|.|DATA|RCPT TO:<b@a.org>", bodyBegan+"|500 what|503 first|503 first")
			if keptOf(t, p) != record(fromX) || len(queueOf(t, p)) != 1 {
				t.Errorf("P10: with a bad line %q there is %v", bad, queueOf(t, p))
			}
			talk(t, p, 0, beginBody+"|good|.", bodyBegan+"|250 kept 2")
		}
	}
}

// bodyOf gives lines of a body that has so many bytes.
func bodyOf(size int) string {
	const most = 98
	lines := ""
	for size > most+2 {
		lines += strings.Repeat("x", most) + "|"
		size -= most + 2
	}
	if size > most {
		return lines + "x|" + strings.Repeat("y", size-3)
	}
	return lines + strings.Repeat("y", size)
}

func TestBodySizes(t *testing.T) {
	for _, size := range []int{1, 2, 99, 100, 101, 102, 103, 104, 202, 500, api.MaxSize - 1, api.MaxSize} {
		c := wideConfig()
		c.Size = size
		p := greeted(t, c, "")
		kept := 0
		for _, have := range []int{0, size - 1, size, size + 1, size + 2, size + 3, 2*size + 5, 10 * size, size} {
			want := "552 size"
			if have <= size {
				kept++
				want = "250 kept " + strconv.Itoa(kept)
			}
			talk(t, p, 0, beginBody+"|"+bodyOf(have)+"|.|DATA", bodyBegan+"|"+want+"|503 first")
			if queue := queueOf(t, p); len(queue) != kept || have <= size && len(queue[kept-1].Body) != have {
				t.Errorf("P10: of %d bytes, with Size %d: %v", have, size, queue)
			}
		}
	}
}

// The bytes that count are those of the body: without the dots ahead, without the last line's end, with those between.
func TestBodySizeCountsTheBody(t *testing.T) {
	c := wideConfig()
	c.Size = 4
	bodies := []struct{ lines, want string }{
		{"..xyz", "250 kept 1"}, {".wxyz", "250 kept 1"}, {"..wxyz", "552 size"}, {"wxyz", "250 kept 1"}, {"wxyz|", "552 size"},
		{"||", "250 kept 1"}, {"|||", "552 size"}, {"|ab", "250 kept 1"}, {"|abc", "552 size"}, {"ab|", "250 kept 1"}, {"abc|", "552 size"},
		{"..|..", "250 kept 1"}, {"..|..a", "552 size"}, {"|..|", "552 size"},
	}
	for _, b := range bodies {
		p := greeted(t, c, "")
		talk(t, p, 0, beginBody+"|"+b.lines+"|.", bodyBegan+"|"+b.want)
	}
}

func TestBodyRoom(t *testing.T) {
	first := record(mailRecord(1, 0, "q@r", "hello", "b@a.org"))
	second := record(mailRecord(2, 0, "q@r", "hi", "b@a.org"))
	for room := 0; room <= len(first)+len(second)+2; room++ {
		c := goodConfig()
		c.Room = room
		p := greeted(t, c, "")
		wantFirst, wantSecond, kept := "452 room", "452 room", ""
		if room >= len(first) {
			wantFirst, kept = "250 kept 1", first
		}
		if room >= len(first)+len(second) {
			wantSecond, kept = "250 kept 2", first+second
		}
		talk(t, p, 0, beginBody+"|hello|.|DATA", bodyBegan+"|"+wantFirst+"|503 first")
		if room < len(first) {
			continue
		}
		talk(t, p, 0, beginBody+"|hi|.|DATA", bodyBegan+"|"+wantSecond+"|503 first")
		if got := keptOf(t, p); got != kept {
			t.Errorf("P10: with Room %d Kept = %x, want %x", room, got, kept)
		}
		if got := queueOf(t, p); !sameMails(got, wantRead(kept).queue()) {
			t.Errorf("P10: with Room %d Queue = %v", room, got)
		}
	}
}

// What did not fit takes no ID, and what is shorter may fit still.
func TestBodyRoomForLess(t *testing.T) {
	small := record(mailRecord(1, 0, "", "", "b@a.org"))
	c := goodConfig()
	c.Room = 2 * len(small)
	p := greeted(t, c, "")
	begin := "MAIL FROM:<>|RCPT TO:<b@a.org>|DATA"
	talk(t, p, 0, begin+"|"+strings.Repeat("x", len(small)+1)+"|.", bodyBegan+"|452 room")
	talk(t, p, 0, begin+"|.|"+begin+"|x|.|"+begin+"|.|"+begin+"|.", bodyBegan+"|250 kept 1|"+bodyBegan+"|452 room|"+bodyBegan+"|250 kept 2|"+bodyBegan+"|452 room")
}

// Room is for all that is kept, also of mail that is gone, and may be less than what was read.
func TestBodyRoomBesideWhatWasRead(t *testing.T) {
	kept := records(mailRecord(1, 4, "x@y", "", "a@b"), failedRecord(7, 1, 0), goneRecord(2, 0))
	next := record(mailRecord(3, 7, "q@r", "hello", "b@a.org"))
	for _, room := range []int{0, len(next), len(kept) - 1, len(kept), len(kept) + len(next) - 1, len(kept) + len(next)} {
		c := goodConfig()
		c.Room = room
		p := greeted(t, c, kept)
		if room < len(kept)+len(next) {
			talk(t, p, 0, beginBody+"|hello|.", bodyBegan+"|452 room")
			if keptOf(t, p) != kept || len(queueOf(t, p)) != 0 {
				t.Errorf("P10: with Room %d there is %v", room, queueOf(t, p))
			}
			continue
		}
		talk(t, p, 0, beginBody+"|hello|.", bodyBegan+"|250 kept 3")
		if got := keptOf(t, p); got != kept+next {
			t.Errorf("P10: with Room %d Kept = %x, want %x", room, got, kept+next)
		}
	}
}

func TestBodyOrderOfAnswers(t *testing.T) {
	c := goodConfig()
	c.Size, c.Room = 10, 0
	p := greeted(t, c, "")
	talk(t, p, 0, beginBody+"|x|.", bodyBegan+"|452 room")
	talk(t, p, 0, beginBody+"|hello world|.", bodyBegan+"|552 size")
	talk(t, p, 0, beginBody+"|hello world|\x00|.", bodyBegan+"|500 what")
	talk(t, p, 0, beginBody+"|\x00|.", bodyBegan+"|500 what")
}

// The new mail has the next ID, behind those of returns too, and the last time that was read.
func TestBodyIDAndTime(t *testing.T) {
	pasts := []struct {
		kept     string
		id, time int
	}{
		{"", 1, 0},
		{records(fromX), 2, 3},
		{records(fromX, fromNo), 3, 5},
		{records(fromX, goneRecord(1, 0, 1, 2)), 2, 3},
		{records(fromX, failedRecord(9, 1, 0)), 3, 9},
		{records(fromX, fromNo, failedRecord(9, 2, 0)), 3, 9},
		{records(fromX, fromNo, failedRecord(9, 2, 0), goneRecord(1, 0)), 3, 9},
		{records(mailRecord(1, api.MaxTime, "", "", "a@b")), 2, api.MaxTime},
		{records(fromX) + "no record", 2, 3},
		{records(fromX, mailRecord(7, 8, "", "", "a@b")), 2, 3},
	}
	for _, past := range pasts {
		p := greeted(t, goodConfig(), past.kept)
		before := keptOf(t, p)
		for id := past.id; id < past.id+12; id++ {
			talk(t, p, 0, beginBody+"|.", bodyBegan+"|250 kept "+strconv.Itoa(id))
			before += record(mailRecord(id, past.time, "q@r", "", "b@a.org"))
			if got := keptOf(t, p); got != before {
				t.Errorf("P10: Kept = %x, want %x", got, before)
			}
			if got := queueOf(t, p); !sameMails(got, wantRead(before).queue()) {
				t.Errorf("P10: Queue = %v, want %v", got, wantRead(before).queue())
			}
		}
	}
}

// IDs of more than a byte, in a record and in what is said.
func TestBodyManyMails(t *testing.T) {
	p := greeted(t, wideConfig(), "")
	for id := 1; id <= 700; id++ {
		talk(t, p, 0, beginBody+"|.", bodyBegan+"|250 kept "+strconv.Itoa(id))
	}
	if got := wantRead(keptOf(t, p)); len(got.mails) != 700 || !sameMails(queueOf(t, p), got.queue()) {
		t.Errorf("P10: %d mails are kept, %d are in Queue", len(got.mails), len(queueOf(t, p)))
	}
}

// The longest that a mail may be goes into its record whole.
func TestBodyLongestMail(t *testing.T) {
	c := wideConfig()
	c.To = api.MaxTo
	label := strings.Repeat("l", api.MaxLabel)
	from := label + "@" + label + "." + label[1:]
	p := openWith(t, c, "")
	connect(t, p, 10<<24)
	talk(t, p, 0, "HELO x|MAIL FROM:<"+strings.ToUpper(from)+">", "250 mx.org|250 ok")
	var to []string
	for i := range api.MaxTo {
		to = append(to, label[1:]+strconv.Itoa(i)+"@"+label+"."+label[1:])
		talk(t, p, 0, "RCPT TO:<"+to[i]+">", "250 ok")
	}
	talk(t, p, 0, "DATA|"+bodyOf(api.MaxSize)+"|.", "354 go|250 kept 1")
	body := strings.ReplaceAll(bodyOf(api.MaxSize), "|", "\r\n")
	if got, want := keptOf(t, p), record(mailRecord(1, 0, strings.ToUpper(label)+from[20:], body, to...)); got != want || len(body) != api.MaxSize {
		t.Errorf("P10: Kept = %x, want %x", got, want)
	}
}

// What was kept is there also if a post is opened with it, whatever came behind.
func TestKeptMailIsOpened(t *testing.T) {
	p := greeted(t, wideConfig(), record(fromX))
	talk(t, p, 0, beginBody+"|first|.", bodyBegan+"|250 kept 2")
	then, queue := keptOf(t, p), queueOf(t, p)
	talk(t, p, 0, beginBody+"|second|.", bodyBegan+"|250 kept 3")
	now := keptOf(t, p)
	if !strings.HasPrefix(now, then) {
		t.Fatalf("P6: Kept = %x, behind %x", now, then)
	}
	for size := len(then); size < len(now); size++ {
		if got := queueOf(t, openWith(t, wideConfig(), now[:size])); !sameMails(got, queue) {
			t.Errorf("P14: of %d bytes Queue = %v, want %v", size, got, queue)
		}
	}
	again := openWith(t, wideConfig(), now)
	if keptOf(t, again) != now || !sameMails(queueOf(t, again), queueOf(t, p)) {
		t.Errorf("P14: Queue = %v, want %v", queueOf(t, again), queueOf(t, p))
	}
}
