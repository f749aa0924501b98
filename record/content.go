package record

import (
	"slices"
	"strings"

	"postbag/address"
	"postbag/api"
)

const (
	mailKind   = "M"
	goneKind   = "G"
	failedKind = "F"
)

const (
	idBytes      = 4
	timeBytes    = 4
	nameBytes    = 1
	countBytes   = 1
	placeBytes   = 1
	bodyLenBytes = 2
)

// Leaving says which recipients leave a mail: their places in it, from 0 on.
type Leaving struct {
	ID     int
	Places []int
}

// ReadMail reads a mail, whose texts are new memory.
func ReadMail(content string) (api.Mail, bool) {
	f := fields{rest: content}
	if f.bytes(len(mailKind)) != mailKind {
		return api.Mail{}, false
	}
	var m api.Mail
	m.ID = f.number(idBytes)
	m.Time = f.number(timeBytes)
	m.From = strings.Clone(f.text(nameBytes))
	for range f.number(countBytes) {
		m.To = append(m.To, strings.Clone(f.text(nameBytes)))
	}
	m.Body = strings.Clone(f.text(bodyLenBytes))
	if !f.areDone() || !mailMayBe(m) {
		return api.Mail{}, false
	}
	return m, true
}

// ReadGone reads who has a mail now.
func ReadGone(content string) (Leaving, bool) {
	f := fields{rest: content}
	if f.bytes(len(goneKind)) != goneKind {
		return Leaving{}, false
	}
	return f.leaving()
}

// ReadFailed reads who will not have a mail, ahead of them the time of that.
func ReadFailed(content string) (int, Leaving, bool) {
	f := fields{rest: content}
	if f.bytes(len(failedKind)) != failedKind {
		return 0, Leaving{}, false
	}
	time := f.number(timeBytes)
	l, ok := f.leaving()
	if !ok || time > api.MaxTime {
		return 0, Leaving{}, false
	}
	return time, l, true
}

func (f *fields) leaving() (Leaving, bool) {
	var l Leaving
	l.ID = f.number(idBytes)
	for range f.number(countBytes) {
		l.Places = append(l.Places, f.number(placeBytes))
	}
	if !f.areDone() || len(l.Places) == 0 || !isRising(l.Places) {
		return Leaving{}, false
	}
	return l, true
}

func isRising(numbers []int) bool {
	for i := 1; i < len(numbers); i++ {
		if numbers[i-1] >= numbers[i] {
			return false
		}
	}
	return true
}

// mailMayBe asks what can be asked of a mail alone; its ID and its time hang on the records ahead, too.
func mailMayBe(m api.Mail) bool {
	return m.Time <= api.MaxTime &&
		(m.From == "" || address.IsKept(m.From)) &&
		recipientsMayBe(m.To) &&
		len(m.Body) <= api.MaxSize
}

func recipientsMayBe(to []string) bool {
	if len(to) < 1 || len(to) > api.MaxTo {
		return false
	}
	for i, name := range to {
		if !address.IsKept(name) || slices.Contains(to[:i], name) {
			return false
		}
	}
	return true
}
