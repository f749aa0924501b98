package postbag_test

import (
	"math/rand"
	"reflect"
	"slices"
	"strings"
	"testing"

	"postbag/api"
	"postbag/postbag"
)

func openWith(t testing.TB, c api.Config, kept string) *postbag.Post {
	t.Helper()
	p, errno := postbag.Open(c, kept)
	if p == nil || errno != api.OK {
		t.Fatalf("P5: Open = %v, %d", p, errno)
	}
	return p
}

func keptOf(t testing.TB, p *postbag.Post) string {
	t.Helper()
	kept, errno := p.Kept()
	if errno != api.OK {
		t.Errorf("P6: Kept: %d", errno)
	}
	return kept
}

func queueOf(t testing.TB, p *postbag.Post) []api.Mail {
	t.Helper()
	queue, errno := p.Queue()
	if errno != api.OK {
		t.Errorf("P6: Queue: %d", errno)
	}
	return queue
}

// readsAsWanted opens what is kept, and holds the post against what the tests read of it themselves.
func readsAsWanted(t testing.TB, name, kept string) {
	t.Helper()
	want := wantRead(kept)
	p := openWith(t, goodConfig(), kept)
	if got := keptOf(t, p); got != kept[:want.size] {
		t.Errorf("P5: %s: %d bytes are kept, want %d of %d", name, len(got), want.size, len(kept))
	}
	if got := queueOf(t, p); !sameMails(got, want.queue()) {
		t.Errorf("P6: %s: Queue = %v, want %v", name, got, want.queue())
	}
}

// stands holds that each content may stand behind those ahead of it; stops, that the last one may not, and that what stands behind it is not read, though it might stand there instead.
func stands(t *testing.T, name string, contents ...string) {
	t.Helper()
	all := records(contents...)
	readsAsWanted(t, name, all)
	if got := keptOf(t, openWith(t, goodConfig(), all)); got != all {
		t.Errorf("P5: %s: %d bytes are kept, want %d", name, len(got), len(all))
	}
}

func stops(t *testing.T, name string, contents ...string) {
	t.Helper()
	stands(t, name+": ahead of it", contents[:len(contents)-1]...)
	ahead := records(contents[:len(contents)-1]...)
	next := wantRead(ahead)
	behind := record(mailRecord(len(next.mails)+1, next.time, "", "", "z@z"))
	kept := records(contents...) + behind
	readsAsWanted(t, name, kept)
	if got := keptOf(t, openWith(t, goodConfig(), kept)); got != ahead {
		t.Errorf("P5: %s: %d bytes are kept, want %d", name, len(got), len(ahead))
	}
}

var (
	fromX  = mailRecord(1, 3, "x@y", "hi", "a@b", "c@d", "e@f")
	fromNo = mailRecord(2, 5, "", "", "a@b")
)

func TestOpenNothing(t *testing.T) {
	p := openWith(t, goodConfig(), "")
	if kept := keptOf(t, p); kept != "" {
		t.Errorf("P6: Kept = %x", kept)
	}
	if queue := queueOf(t, p); len(queue) != 0 {
		t.Errorf("P6: Queue = %v", queue)
	}
}

func TestOpenSettings(t *testing.T) {
	changes := []func(c *api.Config){
		func(c *api.Config) { *c = api.Config{} },
		func(c *api.Config) { c.Host = "" },
		func(c *api.Config) { c.Domains[0] = "-" },
		func(c *api.Config) { c.Nets[0].Len = 33 },
		func(c *api.Config) { c.Users[0].Word = "" },
		func(c *api.Config) { c.To = 0 },
		func(c *api.Config) { c.Size = api.MaxSize + 1 },
		func(c *api.Config) { c.Waits = nil },
		func(c *api.Config) { c.Life = 0 },
		func(c *api.Config) { c.Room = -1 },
	}
	for i, change := range changes {
		for _, kept := range []string{"", records(fromX), "no record"} {
			c := goodConfig()
			change(&c)
			if p, errno := postbag.Open(c, kept); p != nil || errno != api.ErrConfig {
				t.Errorf("P5: settings %d: Open = %v, %d", i, p, errno)
			}
		}
	}
}

// What was kept under other settings is read all the same.
func TestOpenAsksNoSettingsOfRecords(t *testing.T) {
	c := goodConfig()
	c.To, c.Size, c.Life, c.Room, c.Domains, c.Nets, c.Users = 1, 1, 1, 0, nil, nil, nil
	kept := records(fromX, fromNo, mailRecord(3, api.MaxTime, "a@b", strings.Repeat("x", api.MaxSize), tenNames()...))
	p := openWith(t, c, kept)
	if got := keptOf(t, p); got != kept {
		t.Errorf("P5: %d bytes are kept, want %d", len(got), len(kept))
	}
	if got := queueOf(t, p); !sameMails(got, wantRead(kept).queue()) || len(got) != 3 {
		t.Errorf("P6: Queue = %v", got)
	}
}

func tenNames() []string {
	names := make([]string, api.MaxTo)
	for i := range names {
		names[i] = string(rune('a'+i)) + "@host.org"
	}
	return names
}

func TestOpenNilPost(t *testing.T) {
	var p *postbag.Post
	if kept, errno := p.Kept(); kept != "" || errno != api.ErrNil {
		t.Errorf("P1: Kept = %q, %d", kept, errno)
	}
	if queue, errno := p.Queue(); len(queue) != 0 || errno != api.ErrNil {
		t.Errorf("P1: Queue = %v, %d", queue, errno)
	}
}

func TestQueueOrdinary(t *testing.T) {
	steps := []struct {
		content string
		want    []api.Mail
	}{
		{fromX, []api.Mail{{ID: 1, Time: 3, From: "x@y", To: []string{"a@b", "c@d", "e@f"}, Body: "hi"}}},
		{fromNo, []api.Mail{{ID: 1, Time: 3, From: "x@y", To: []string{"a@b", "c@d", "e@f"}, Body: "hi"}, {ID: 2, Time: 5, To: []string{"a@b"}}}},
		{goneRecord(1, 1), []api.Mail{{ID: 1, Time: 3, From: "x@y", To: []string{"a@b", "e@f"}, Body: "hi"}, {ID: 2, Time: 5, To: []string{"a@b"}}}},
		{failedRecord(8, 2, 0), []api.Mail{{ID: 1, Time: 3, From: "x@y", To: []string{"a@b", "e@f"}, Body: "hi"}}},
		{failedRecord(9, 1, 0, 2), []api.Mail{{ID: 3, Time: 9, To: []string{"x@y"}, Body: "Not delivered:\r\na@b\r\ne@f"}}},
		{mailRecord(4, 9, "q@r", ".\r\n", "B@b"), []api.Mail{{ID: 3, Time: 9, To: []string{"x@y"}, Body: "Not delivered:\r\na@b\r\ne@f"}, {ID: 4, Time: 9, From: "q@r", To: []string{"B@b"}, Body: ".\r\n"}}},
		{failedRecord(10, 3, 0), []api.Mail{{ID: 4, Time: 9, From: "q@r", To: []string{"B@b"}, Body: ".\r\n"}}},
		{goneRecord(4, 0), nil},
	}
	kept := ""
	for i, step := range steps {
		kept += record(step.content)
		p := openWith(t, goodConfig(), kept)
		for range 2 {
			if got := queueOf(t, p); !sameMails(got, step.want) {
				t.Errorf("P6: of %d records: Queue = %v, want %v", i+1, got, step.want)
			}
			if got := keptOf(t, p); got != kept {
				t.Errorf("P6: of %d records: Kept = %x, want %x", i+1, got, kept)
			}
		}
		readsAsWanted(t, "a step", kept)
	}
}

func TestOpenCutOff(t *testing.T) {
	all := records(fromX, fromNo, goneRecord(1, 1), failedRecord(9, 1, 0), mailRecord(4, 9, "q@r", "b", "B@b"), goneRecord(3, 0))
	for i := range len(all) + 1 {
		readsAsWanted(t, "cut off", all[:i])
		readsAsWanted(t, "cut off, and filled up", all[:i]+strings.Repeat("\x00", len(all)-i))
		readsAsWanted(t, "cut off, and begun again", all[:i]+all)
	}
}

func TestOpenWrongSum(t *testing.T) {
	all := records(fromX, fromNo, failedRecord(9, 1, 0), goneRecord(3, 0))
	starts := []int{0}
	for _, content := range []string{fromX, fromNo, failedRecord(9, 1, 0), goneRecord(3, 0)} {
		starts = append(starts, starts[len(starts)-1]+8+len(content))
	}
	for i := range len(all) {
		for bit := range 8 {
			b := []byte(all)
			b[i] ^= 1 << bit
			at, _ := slices.BinarySearch(starts, i+1)
			if got := keptOf(t, openWith(t, goodConfig(), string(b))); got != all[:starts[at-1]] {
				t.Errorf("P5: with bit %d of byte %d turned %d bytes are kept, want %d", bit, i, len(got), starts[at-1])
			}
		}
	}
}

func TestOpenSizes(t *testing.T) {
	for _, size := range []int{0, 1, len(fromX) - 1, len(fromX) + 1, 1 << 8, 1 << 16, 1 << 24, 1<<31 - 1, 1 << 31, 1<<32 - 8, 1<<32 - 1} {
		kept := four(size) + record(fromX)[4:] + record(fromNo)
		readsAsWanted(t, "a wrong size", kept)
		if got := keptOf(t, openWith(t, goodConfig(), kept)); got != "" {
			t.Errorf("P5: with the size %d %d bytes are kept", size, len(got))
		}
	}
}

func TestOpenKinds(t *testing.T) {
	for kind := range 256 {
		for _, content := range []string{fromNo, goneRecord(1, 1), failedRecord(9, 1, 0)} {
			if one(kind) == content[:1] {
				stands(t, "a kind", fromX, content)
			} else {
				stops(t, "another kind", fromX, one(kind)+content[1:])
			}
		}
		stops(t, "a kind alone", fromX, one(kind))
		stops(t, "a kind alone in front", one(kind))
	}
	stops(t, "nothing", fromX, "")
	stops(t, "nothing in front", "")
}

func TestOpenContentsOfAnotherLength(t *testing.T) {
	for _, content := range []string{fromNo, mailRecord(2, 5, "x@y", "body", "a@b", "c@d"), goneRecord(1, 0, 2), failedRecord(9, 1, 0, 1, 2)} {
		stands(t, "a content", fromX, content)
		for i := range len(content) {
			stops(t, "a content cut off", fromX, content[:i])
		}
		for _, more := range []string{"\x00", "M", "\xff", content, strings.Repeat("\x00", 300)} {
			stops(t, "a content with more behind it", fromX, content+more)
		}
	}
}

func TestOpenMailIDs(t *testing.T) {
	for _, id := range []int{0, 2, 3, 256, 257, 1 << 24, 1<<24 + 1, 1<<32 - 1} {
		stops(t, "a first ID", mailRecord(id, 3, "", "", "a@b"))
	}
	for _, id := range []int{0, 1, 3, 4, 258, 2 << 8, 2 << 24, 1<<32 - 1} {
		stops(t, "a second ID", fromX, mailRecord(id, 3, "", "", "a@b"))
	}
	stands(t, "the next ID", fromX, mailRecord(2, 3, "", "", "a@b"))
	stands(t, "behind a mail that is gone", fromX, goneRecord(1, 0, 1, 2), mailRecord(2, 3, "", "", "a@b"))
	stops(t, "the ID of one that is gone", fromX, goneRecord(1, 0, 1, 2), mailRecord(1, 3, "", "", "a@b"))
	stops(t, "the ID of a return", fromX, failedRecord(3, 1, 0), mailRecord(2, 3, "", "", "a@b"))
	stands(t, "behind the ID of a return", fromX, failedRecord(3, 1, 0), mailRecord(3, 3, "", "", "a@b"))
	stops(t, "the ID of a return that is gone", fromX, failedRecord(3, 1, 0), goneRecord(2, 0), mailRecord(2, 3, "", "", "a@b"))
	stands(t, "where no return is", fromX, fromNo, failedRecord(5, 2, 0), mailRecord(3, 5, "", "", "a@b"))
}

// IDs of more than two bytes, so that each of their bytes counts.
func TestOpenManyMails(t *testing.T) {
	const many = 1<<16 + 300
	var all strings.Builder
	for id := 1; id <= many; id++ {
		all.WriteString(record(mailRecord(id, id, "x@y", "", "a@b", "c@d")))
	}
	stop := all.Len()
	all.WriteString(record(mailRecord(many+2, many, "", "", "a@b")))
	p := openWith(t, goodConfig(), all.String())
	if got := keptOf(t, p); got != all.String()[:stop] {
		t.Errorf("P5: %d bytes are kept, want %d", len(got), stop)
	}
	for i, m := range queueOf(t, p) {
		if m.ID != i+1 || m.Time != i+1 || len(m.To) != 2 {
			t.Fatalf("P6: mail %d: %v", i, m)
		}
	}
	mails := all.String()[:stop]
	readsAsWanted(t, "some of many", mails+records(goneRecord(1<<16+1, 0, 1), failedRecord(1<<24+1, 257, 0, 1), goneRecord(1, 0), goneRecord(many+1, 0)))
	var gone strings.Builder
	for id := many; id >= 1; id-- {
		gone.WriteString(record(goneRecord(id, id%2)))
	}
	readsAsWanted(t, "one of each of many", mails+gone.String())
}

func TestOpenTimes(t *testing.T) {
	for _, time := range []int{0, 2, 3, 4, 255, 256, 1 << 16, 1 << 24, api.MaxTime - 1, api.MaxTime, api.MaxTime + 1, 1 << 30, 1 << 31, 1<<32 - 1} {
		hold := stops
		if 3 <= time && time <= api.MaxTime {
			hold = stands
		}
		hold(t, "a mail's time", fromX, mailRecord(2, time, "", "", "a@b"))
		hold(t, "a failure's time", fromX, failedRecord(time, 1, 0))
		hold(t, "a mail's time behind one that is gone", fromX, goneRecord(1, 0), mailRecord(2, time, "", "", "a@b"))
		hold(t, "a mail's time behind a failure", mailRecord(1, 0, "x@y", "", "a@b"), failedRecord(3, 1, 0), mailRecord(3, time, "", "", "a@b"))
		hold(t, "a mail's time behind a failure without a return", mailRecord(1, 0, "", "", "a@b"), failedRecord(3, 1, 0), mailRecord(2, time, "", "", "a@b"))
		hold(t, "a failure's time behind a failure", mailRecord(1, 0, "", "", "a@b", "c@d"), failedRecord(3, 1, 0), failedRecord(time, 1, 1))
		hold(t, "a return's failure's time", mailRecord(1, 0, "x@y", "", "a@b"), failedRecord(3, 1, 0), failedRecord(time, 2, 0))
	}
	for _, time := range []int{0, 1, api.MaxTime} {
		stands(t, "a first time", mailRecord(1, time, "x@y", "", "a@b"))
	}
	stops(t, "a first time above all", mailRecord(1, api.MaxTime+1, "x@y", "", "a@b"))
	stops(t, "a time below one two ahead", mailRecord(1, 9, "", "", "a@b"), goneRecord(1, 0), mailRecord(2, 8, "", "", "a@b"))
}

// A record that may not stand does not move the time, nor anything else.
func TestOpenStopsWithoutAChange(t *testing.T) {
	for _, refused := range []string{failedRecord(99, 1, 0, 3), failedRecord(99, 1, 2, 0), failedRecord(2, 1, 0), goneRecord(1, 0, 3), mailRecord(3, 99, "", "", "a@b")} {
		stops(t, "refused", fromX, refused)
		p := openWith(t, goodConfig(), records(fromX, refused))
		if want := wantRead(record(fromX)).queue(); !sameMails(queueOf(t, p), want) {
			t.Errorf("P6: behind %x: Queue = %v, want %v", refused, queueOf(t, p), want)
		}
	}
}

func TestOpenNames(t *testing.T) {
	label := strings.Repeat("l", api.MaxLabel)
	longest := label + "@" + label + "." + label[1:]
	names := []string{"a@b", "A@b", "x.y+z@a.b-1", "_@1", "-@x", "+@x", longest, label + "@" + label,
		"", "@", "a", "a@", "@b", "a@B", "a@b.C", "a@b.", "a@.b", "a@-b", "a@b-", "a@b..c", ".a@b", "a.@b", "a..c@b", "a@b@c", "a b@c", "a@b\x00", "a\x00@b", "<a@b>", "ü@b", "a@ü", "a@b\n", "\xff@b",
		longest + "l", "l" + longest, label + "@" + label + "l", strings.Repeat("l", 255)}
	for _, name := range names {
		hold := stops
		if wantKeptAddress(name) {
			hold = stands
		}
		hold(t, "a lone recipient", mailRecord(1, 0, "", "", name))
		hold(t, "a first recipient", mailRecord(1, 0, "", "", name, "other@b"))
		hold(t, "a last recipient", mailRecord(1, 0, "", "", "other@b", "more@b", name))
		if name == "" {
			hold = stands
		}
		hold(t, "a sender", mailRecord(1, 0, name, "", "a@b"))
	}
}

func TestOpenRecipients(t *testing.T) {
	ten := tenNames()
	for size := range api.MaxTo + 1 {
		hold := stands
		if size == 0 {
			hold = stops
		}
		hold(t, "some recipients", mailRecord(1, 0, "x@y", "b", ten[:size]...))
	}
	stops(t, "one too many", mailRecord(1, 0, "x@y", "b", append(slices.Clone(ten), "more@b")...))
	stops(t, "a lot of the same", mailRecord(1, 0, "x@y", "b", slices.Repeat([]string{"a@b"}, 255)...))
	for i := range ten {
		for j := range ten {
			if i != j {
				twice := slices.Clone(ten)
				twice[i] = twice[j]
				stops(t, "the same twice", mailRecord(1, 0, "x@y", "b", twice...))
			}
		}
	}
	stands(t, "capital and small ahead of the @", mailRecord(1, 0, "", "", "a@b", "A@b"))
	stands(t, "to the sender", mailRecord(1, 0, "a@b", "", "a@b"))
	stands(t, "the same in two mails", mailRecord(1, 0, "", "", "a@b"), mailRecord(2, 0, "", "", "a@b"))
}

func TestOpenBodies(t *testing.T) {
	for _, size := range []int{0, 1, 100, 101, 255, 256, api.MaxSize - 1, api.MaxSize} {
		stands(t, "a body", mailRecord(1, 0, "", strings.Repeat("x", size), "a@b"))
	}
	for _, size := range []int{api.MaxSize + 1, 1024, 1<<16 - 1} {
		stops(t, "a body that is too long", mailRecord(1, 0, "", strings.Repeat("x", size), "a@b"))
	}
	bytes := make([]byte, 256)
	for i := range bytes {
		bytes[i] = byte(i)
	}
	stands(t, "a body of any bytes", mailRecord(1, 0, "", string(bytes), "a@b"))
}

func TestOpenLeaving(t *testing.T) {
	kinds := []func(id int, places ...int) string{goneRecord, func(id int, places ...int) string { return failedRecord(7, id, places...) }}
	for _, leave := range kinds {
		for _, id := range []int{0, 2, 255, 256, 257, 1<<24 + 1, 1<<32 - 1} {
			stops(t, "no such mail", fromX, leave(id, 0))
		}
		stops(t, "no mail", leave(1, 0))
		stops(t, "nobody", fromX, leave(1))
		for _, places := range [][]int{{3}, {255}, {0, 3}, {0, 1, 2, 3}, {0, 0}, {1, 0}, {0, 2, 1}, {2, 1, 0}, {1, 1}, {0, 1, 1}} {
			stops(t, "places that may not be", fromX, leave(1, places...))
		}
		for _, places := range [][]int{{0}, {1}, {2}, {0, 1}, {0, 2}, {1, 2}, {0, 1, 2}} {
			stands(t, "places", fromX, leave(1, places...))
			for _, again := range kinds {
				for place := range 3 {
					hold := stands
					if slices.Contains(places, place) {
						hold = stops
					}
					hold(t, "one behind others", fromX, leave(1, places...), again(1, place))
				}
				stops(t, "all behind others", fromX, leave(1, places...), again(1, 0, 1, 2))
			}
		}
		stands(t, "the last of many", mailRecord(1, 0, "", "", tenNames()...), leave(1, 0, 1, 2, 3, 4, 5, 6, 7, 8, 9))
		stops(t, "behind the last of many", mailRecord(1, 0, "", "", tenNames()...), leave(1, 10))
	}
	all := make([]int, 255)
	for i := range all {
		all[i] = i
	}
	stops(t, "more than a mail has", mailRecord(1, 0, "", "", tenNames()...), goneRecord(1, all...))
}

func TestOpenReturns(t *testing.T) {
	ten := tenNames()
	full := mailRecord(1, 3, "X.y@z.org", "hi", ten...)
	kept := records(full, failedRecord(4, 1, 0, 9), goneRecord(1, 1), failedRecord(6, 1, 2, 3, 4, 5, 6, 7, 8))
	want := []api.Mail{
		{ID: 2, Time: 4, To: []string{"X.y@z.org"}, Body: "Not delivered:\r\n" + ten[0] + "\r\n" + ten[9]},
		{ID: 3, Time: 6, To: []string{"X.y@z.org"}, Body: "Not delivered:\r\n" + strings.Join(ten[2:9], "\r\n")},
	}
	if got := queueOf(t, openWith(t, goodConfig(), kept)); !sameMails(got, want) {
		t.Errorf("P6: Queue = %v, want %v", got, want)
	}
	behind := []string{full, failedRecord(4, 1, 0, 9)}
	stands(t, "a return is gone", append(behind, goneRecord(2, 0))...)
	stands(t, "a return failed", append(behind, failedRecord(4, 2, 0))...)
	stops(t, "a return has one recipient", append(behind, goneRecord(2, 1))...)
	stops(t, "a return is gone once", append(behind, goneRecord(2, 0), goneRecord(2, 0))...)
	stops(t, "no return comes of a return", append(behind, failedRecord(4, 2, 0), goneRecord(3, 0))...)
	stops(t, "no return comes of those who are gone", full, goneRecord(1, 0), goneRecord(2, 0))
	stops(t, "no return where there is no sender", mailRecord(1, 0, "", "", "a@b"), failedRecord(4, 1, 0), goneRecord(2, 0))
	stops(t, "a return comes behind its failure", full, goneRecord(2, 0))
}

// randomKept writes records most of which may stand where they do.
func randomKept(r *rand.Rand) string {
	names := []string{"a@b", "A@b", "c@d", "e@f.g", "x@y", "", "a@B"}
	kept := ""
	for range r.Intn(12) {
		b := wantRead(kept)
		time := b.time + r.Intn(3) - r.Intn(12)/11
		id := 1 + r.Intn(len(b.mails)+1)
		var content string
		switch r.Intn(3) {
		case 0:
			to := slices.Clone(names[:r.Intn(len(names))])
			r.Shuffle(len(to), func(i, j int) { to[i], to[j] = to[j], to[i] })
			content = mailRecord(len(b.mails)+1+r.Intn(20)/19, max(time, 0), names[r.Intn(len(names))], strings.Repeat("b", r.Intn(3)), to...)
		case 1:
			content = goneRecord(id, randomPlaces(r)...)
		case 2:
			content = failedRecord(max(time, 0), id, randomPlaces(r)...)
		}
		if longer := kept + record(content); wantRead(longer).size == len(longer) || r.Intn(10) == 0 {
			kept = longer
		}
	}
	return kept
}

func randomPlaces(r *rand.Rand) []int {
	var places []int
	for place := range 4 {
		if r.Intn(2) == 0 {
			places = append(places, place)
		}
	}
	return places
}

func TestOpenRandom(t *testing.T) {
	r := rand.New(rand.NewSource(1))
	for range 5000 {
		kept := randomKept(r)
		readsAsWanted(t, "at random", kept)
		if len(kept) > 0 {
			b := []byte(kept)
			b[r.Intn(len(b))] = byte(r.Intn(256))
			readsAsWanted(t, "at random, changed", string(b))
		}
	}
}

// FuzzOpen takes each byte string both as it is and as the content of a last record, since no sum is right by chance.
func FuzzOpen(f *testing.F) {
	for _, content := range []string{"", fromNo, goneRecord(1, 1), failedRecord(9, 1, 0, 2), mailRecord(2, 3, "a@b", "", tenNames()...)} {
		f.Add(content)
		f.Add(record(content))
	}
	f.Fuzz(func(t *testing.T, s string) {
		readsAsWanted(t, "as it is", s)
		readsAsWanted(t, "behind a record", record(fromX)+s)
		readsAsWanted(t, "as a content", record(s))
		readsAsWanted(t, "as a content behind others", records(fromX, mailRecord(2, 3, "q@r", "", "a@b"), goneRecord(1, 1), failedRecord(4, 2, 0), s))
	})
}

func TestOpenLeavesListsAlone(t *testing.T) {
	c := goodConfig()
	c.Domains = withRoom([]string{"Z.org", "B.org", "a.ORG"}, "behind", "-")
	c.Nets = withRoom([]api.Net{{Addr: 512, Len: 24}, {Addr: 256, Len: 24}}, api.Net{Addr: 7, Len: 7})
	c.Users = withRoom([]api.User{{Name: "z", Word: "w"}, {Name: "a", Word: "v"}}, api.User{Name: "z", Word: "behind"})
	c.Waits = withRoom([]int{9, 3, 5}, -1, 4)
	before := whole(c)
	openWith(t, c, records(fromX, fromNo))
	if after := whole(c); !reflect.DeepEqual(before, after) {
		t.Errorf("P2: the lists were %v, and are %v", before, after)
	}
}
