package bag

import (
	"cmp"
	"maps"
	"slices"

	"postbag/record"
)

// Outgoing is a mail as it is handed on: to those who are still there.
type Outgoing struct {
	ID   int
	From string
	To   []Recipient
	Body string
}

// Time gives the post's time.
func (b *Bag) Time() int {
	return b.time
}

// Tick sets the time; all who are still to have a mail that is as old as life by then fail.
func (b *Bag) Tick(now, life int) {
	b.time = now
	// The IDs are taken ahead of it all: a return that comes of a failure has only just come.
	for _, id := range slices.Sorted(maps.Keys(b.mails)) {
		if m := b.mails[id]; now-m.time >= life {
			b.writeFailed(id, m.places())
		}
	}
}

// LongestDue gives the mail that has been due longest, the first of them, if any is due.
func (b *Bag) LongestDue() (Outgoing, bool) {
	var due []int
	for id, m := range b.mails {
		if m.due <= b.time {
			due = append(due, id)
		}
	}
	if len(due) == 0 {
		return Outgoing{}, false
	}
	id := slices.MinFunc(due, b.compareDue)
	m := b.mails[id]
	return Outgoing{ID: id, From: m.from, To: slices.Clone(m.to), Body: m.body}, true
}

func (b *Bag) compareDue(one, other int) int {
	return cmp.Or(cmp.Compare(b.mails[one].due, b.mails[other].due), cmp.Compare(one, other))
}

// Settle writes who has a mail now, then who will not have it; for those who are still there it is put off as waits say.
func (b *Bag) Settle(id int, gone, failed, waits []int) {
	b.writeGone(id, gone)
	b.writeFailed(id, failed)
	if m, ok := b.mails[id]; ok {
		m.due = b.time + waits[min(m.failures, len(waits)-1)]
		m.failures++
	}
}

func (b *Bag) writeGone(id int, places []int) {
	if len(places) > 0 {
		b.write(record.WriteGone(record.Leaving{ID: id, Places: places}))
	}
}

func (b *Bag) writeFailed(id int, places []int) {
	if len(places) > 0 {
		b.write(record.WriteFailed(b.time, record.Leaving{ID: id, Places: places}))
	}
}

// makeAllDue has no mail wait longer than another: what was put off ahead of Open is not known any more.
func (b *Bag) makeAllDue() {
	for _, m := range b.mails {
		m.due = b.time
	}
}
