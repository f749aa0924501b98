// Package bag: the records of a post, and the mail that they leave to be handed on.
package bag

import (
	"maps"
	"slices"

	"postbag/api"
	"postbag/record"
)

// Bag is what is kept, and what follows of it.
type Bag struct {
	records []byte
	time    int
	lastID  int
	// A mail that all recipients have left is not here any more: nobody can leave it again.
	mails map[int]*mail
}

// Read takes the records that kept begins with, up to the first that may not stand where it does.
func Read(kept string) *Bag {
	b := &Bag{mails: map[int]*mail{}}
	size := 0
	for {
		content, rest, ok := record.Cut(kept[size:])
		if !ok || !b.take(content) {
			break
		}
		size = len(kept) - len(rest)
	}
	b.records = []byte(kept[:size])
	b.makeAllDue()
	return b
}

// Kept gives the records.
func (b *Bag) Kept() string {
	return string(b.records)
}

// Queue gives the mails that still have recipients, by their IDs.
func (b *Bag) Queue() []api.Mail {
	queue := make([]api.Mail, 0, len(b.mails))
	for _, id := range slices.Sorted(maps.Keys(b.mails)) {
		queue = append(queue, b.mails[id].told(id))
	}
	return queue
}

// Keep writes a new mail and gives its ID, if its record fits into room beside the others.
func (b *Bag) Keep(from string, to []string, body string, room int) (int, bool) {
	id := b.lastID + 1
	content := record.WriteMail(api.Mail{ID: id, Time: b.time, From: from, To: to, Body: body})
	if len(b.records)+record.Size(content) > room {
		return 0, false
	}
	return id, b.write(content)
}

// write does what a record says in the way of one that is read, so that a post which is opened with it goes on like this one.
func (b *Bag) write(content string) bool {
	if !b.take(content) {
		return false
	}
	b.records = append(b.records, record.Whole(content)...)
	return true
}

// take does what a record says, if it may stand behind those that were taken; else it changes nothing.
func (b *Bag) take(content string) bool {
	if m, ok := record.ReadMail(content); ok {
		return b.takeMail(m)
	}
	if l, ok := record.ReadGone(content); ok {
		return b.takeGone(l)
	}
	if time, l, ok := record.ReadFailed(content); ok {
		return b.takeFailed(time, l)
	}
	return false
}

func (b *Bag) takeMail(m api.Mail) bool {
	if m.ID != b.lastID+1 || m.Time < b.time {
		return false
	}
	b.add(m)
	return true
}

func (b *Bag) takeGone(l record.Leaving) bool {
	if !b.mayLeave(l) {
		return false
	}
	b.leave(l)
	return true
}

func (b *Bag) takeFailed(time int, l record.Leaving) bool {
	if !b.mayLeave(l) || time < b.time {
		return false
	}
	b.time = time
	sender := b.mails[l.ID].from
	names := b.leave(l)
	if sender != "" {
		b.add(api.Mail{ID: b.lastID + 1, Time: time, To: []string{sender}, Body: returnBody(names)})
	}
	return true
}

func returnBody(names []string) string {
	body := "Not delivered:"
	for _, name := range names {
		body += "\r\n" + name
	}
	return body
}

func (b *Bag) add(m api.Mail) {
	b.lastID = m.ID
	b.time = m.Time
	b.mails[m.ID] = newMail(m)
}

func (b *Bag) mayLeave(l record.Leaving) bool {
	m, ok := b.mails[l.ID]
	return ok && m.hasAll(l.Places)
}

// leave gives the names of those who leave the mail.
func (b *Bag) leave(l record.Leaving) []string {
	m := b.mails[l.ID]
	names := m.leave(l.Places)
	if len(m.to) == 0 {
		delete(b.mails, l.ID)
	}
	return names
}
