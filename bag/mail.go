package bag

import (
	"slices"
	"strings"

	"postbag/api"
)

// mail is one that is still to be handed on.
type mail struct {
	time int
	from string
	to   []Recipient
	body string
	// due is since when, or from when on, it may be handed on.
	due      int
	failures int
}

// Recipient is one who is still there; the place is that in the mail's record, whoever has left it.
type Recipient struct {
	Place int
	Name  string
}

func newMail(m api.Mail) *mail {
	to := make([]Recipient, len(m.To))
	for i, name := range m.To {
		to[i] = Recipient{Place: i, Name: name}
	}
	return &mail{time: m.Time, from: m.From, to: to, body: m.Body, due: m.Time}
}

func (m *mail) hasAll(places []int) bool {
	for _, place := range places {
		if !slices.ContainsFunc(m.to, func(r Recipient) bool { return r.Place == place }) {
			return false
		}
	}
	return true
}

// leave takes out those at the places, and gives their names.
func (m *mail) leave(places []int) []string {
	var names []string
	var staying []Recipient
	for _, r := range m.to {
		if slices.Contains(places, r.Place) {
			names = append(names, r.Name)
		} else {
			staying = append(staying, r)
		}
	}
	m.to = staying
	return names
}

// places gives those of all who are still there.
func (m *mail) places() []int {
	places := make([]int, len(m.to))
	for i, r := range m.to {
		places[i] = r.Place
	}
	return places
}

// told copies the texts too, so that nothing of the answer is the mail's own.
func (m *mail) told(id int) api.Mail {
	to := make([]string, len(m.to))
	for i, r := range m.to {
		to[i] = strings.Clone(r.Name)
	}
	return api.Mail{ID: id, Time: m.time, From: strings.Clone(m.from), To: to, Body: strings.Clone(m.body)}
}
