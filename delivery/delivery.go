// Package delivery: what is said to the other host, to which a mail is handed on, and what comes of it.
package delivery

import (
	"slices"

	"postbag/api"
	"postbag/bag"
)

// Talk is one with the other host about one mail.
type Talk struct {
	settings *api.Config
	bag      *bag.Bag
	mail     bag.Outgoing
	said     step
	// unasked are the recipients for whom the other host has not answered yet.
	unasked []bag.Recipient
	willing []bag.Recipient
	// came has room for all recipients, since each of them leaves once: it is emptied when the talk is over.
	came   chan leaving
	isOver bool
}

// leaving is a recipient who has the mail, or will not have it.
type leaving struct {
	place int
	hasIt bool
}

// Begin begins a talk, in which the other host speaks first.
func Begin(c *api.Config, b *bag.Bag, m bag.Outgoing) *Talk {
	return &Talk{settings: c, bag: b, mail: m, unasked: m.To, came: make(chan leaving, len(m.To))}
}

// IsOver tells whether all has been said.
func (t *Talk) IsOver() bool {
	return t.isOver
}

// End ends the talk, wherever it stands, and writes what came of it.
func (t *Talk) End() {
	t.isOver = true
	gone, failed := t.takeCame()
	t.bag.Settle(t.mail.ID, gone, failed, t.settings.Waits)
}

func (t *Talk) gone(recipients []bag.Recipient) {
	for _, r := range recipients {
		t.came <- leaving{place: r.Place, hasIt: true}
	}
}

func (t *Talk) failed(recipients []bag.Recipient) {
	for _, r := range recipients {
		t.came <- leaving{place: r.Place}
	}
}

// takeCame gives rising places, in whatever order they came.
func (t *Talk) takeCame() (gone, failed []int) {
	for {
		select {
		case l := <-t.came:
			if l.hasIt {
				gone = append(gone, l.place)
			} else {
				failed = append(failed, l.place)
			}
		default:
			slices.Sort(gone)
			slices.Sort(failed)
			return gone, failed
		}
	}
}
