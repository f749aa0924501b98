package postbag_test

import (
	"runtime"
	"slices"
	"strings"
	"testing"
	"time"
	"unsafe"

	"postbag/api"
	"postbag/postbag"
)

// overlap tells whether two texts share memory.
func overlap(a, b string) bool {
	if a == "" || b == "" {
		return false
	}
	start, other := uintptr(unsafe.Pointer(unsafe.StringData(a))), uintptr(unsafe.Pointer(unsafe.StringData(b)))
	return start < other+uintptr(len(b)) && other < start+uintptr(len(a))
}

func textsOf(queue []api.Mail) []string {
	var texts []string
	for _, m := range queue {
		texts = append(append(texts, m.From, m.Body), m.To...)
	}
	return texts
}

// manyKept has texts of more than a byte, since short ones may be the runtime's own, and shared.
func manyKept() string {
	return records(
		mailRecord(1, 3, "sender@home.org", "some body", "first@host.org", "second@host.org", "third@host.org"),
		mailRecord(2, 5, "sender@home.org", "some body", "first@host.org"),
		goneRecord(1, 1), failedRecord(9, 1, 0),
		mailRecord(4, 9, "", "other body", tenNames()...),
	)
}

func TestAddressIsNewMemory(t *testing.T) {
	for _, s := range []string{"some.body@host.org", "Some.Body@Host.ORG"} {
		local, domain, ok := postbag.Address(s)
		if !ok || overlap(local, s) || overlap(domain, s) || overlap(local, domain) {
			t.Errorf("P2: Address(%q) shares memory: %q, %q, %v", s, local, domain, ok)
		}
	}
}

func TestAnswersAreNewMemory(t *testing.T) {
	kept := manyKept()
	p := openWith(t, goodConfig(), kept)
	texts := append(textsOf(queueOf(t, p)), textsOf(queueOf(t, p))...)
	texts = append(texts, keptOf(t, p), keptOf(t, p), kept)
	for i, a := range texts {
		for j, b := range texts {
			if i != j && overlap(a, b) {
				t.Errorf("P2: the texts %d (%q) and %d (%q) share memory", i, a, j, b)
			}
		}
	}
}

func TestQueueListsShareNothing(t *testing.T) {
	p := openWith(t, goodConfig(), manyKept())
	want := wantRead(manyKept()).queue()
	for i := range want {
		queue := queueOf(t, p)
		queue[i].To = queue[i].To[:cap(queue[i].To)]
		for j := range queue[i].To {
			queue[i].To[j] = "mine"
		}
		changed := slices.Clone(want)
		changed[i].To = queue[i].To
		if !sameMails(queue, changed) {
			t.Errorf("P2: with the list of %d filled Queue's answer is %v", i, queue)
		}
		queue = queue[:cap(queue)]
		for j := range queue {
			queue[j] = api.Mail{}
		}
		if got := queueOf(t, p); !sameMails(got, want) {
			t.Errorf("P2: Queue = %v, want %v", got, want)
		}
	}
}

func TestPostsAreApart(t *testing.T) {
	whole := manyKept()
	first, second, third := openWith(t, goodConfig(), whole), openWith(t, goodConfig(), record(fromX)), openWith(t, goodConfig(), "")
	for range 2 {
		if keptOf(t, first) != whole || keptOf(t, second) != record(fromX) || keptOf(t, third) != "" {
			t.Errorf("P2: Kept of three posts: %x, %x, %x", keptOf(t, first), keptOf(t, second), keptOf(t, third))
		}
		if !sameMails(queueOf(t, first), wantRead(whole).queue()) || !sameMails(queueOf(t, second), wantRead(record(fromX)).queue()) || len(queueOf(t, third)) != 0 {
			t.Errorf("P2: Queue of three posts: %v, %v, %v", queueOf(t, first), queueOf(t, second), queueOf(t, third))
		}
	}
}

// heldText gives a text, and a channel that is closed when its memory is free.
func heldText(s string) (string, <-chan struct{}) {
	free := make(chan struct{})
	memory := new([1 << 20]byte)
	copy(memory[:], s)
	runtime.SetFinalizer(memory, func(*[1 << 20]byte) { close(free) })
	return unsafe.String(&memory[0], len(memory)), free
}

func TestOpenDoesNotHoldWhatCameIn(t *testing.T) {
	kept, free := heldText(manyKept())
	p := openWith(t, goodConfig(), kept)
	if !strings.HasPrefix(kept, keptOf(t, p)) {
		t.Errorf("P6: Kept = %x", keptOf(t, p))
	}
	kept = ""
	for range 100 {
		runtime.GC()
		select {
		case <-free:
			runtime.KeepAlive(p)
			return
		case <-time.After(10 * time.Millisecond):
		}
	}
	t.Errorf("P2: what was handed in to Open is still held")
	runtime.KeepAlive(p)
}
