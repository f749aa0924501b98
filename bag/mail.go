package bag

import (
	"slices"
	"strings"

	"postbag/api"
)

// mail is one that is still to be handed on.
type mail struct {
	time int
	from string
	to   []recipient
	body string
}

// recipient is one who is still there; the place is that in the mail's record, whoever has left it.
type recipient struct {
	place int
	name  string
}

func newMail(m api.Mail) *mail {
	to := make([]recipient, len(m.To))
	for i, name := range m.To {
		to[i] = recipient{place: i, name: name}
	}
	return &mail{time: m.Time, from: m.From, to: to, body: m.Body}
}

func (m *mail) hasAll(places []int) bool {
	for _, place := range places {
		if !slices.ContainsFunc(m.to, func(r recipient) bool { return r.place == place }) {
			return false
		}
	}
	return true
}

// leave takes out those at the places, and gives their names.
func (m *mail) leave(places []int) []string {
	var names []string
	var staying []recipient
	for _, r := range m.to {
		if slices.Contains(places, r.place) {
			names = append(names, r.name)
		} else {
			staying = append(staying, r)
		}
	}
	m.to = staying
	return names
}

// told copies the texts too, so that nothing of the answer is the mail's own.
func (m *mail) told(id int) api.Mail {
	to := make([]string, len(m.to))
	for i, r := range m.to {
		to[i] = strings.Clone(r.name)
	}
	return api.Mail{ID: id, Time: m.time, From: strings.Clone(m.from), To: to, Body: strings.Clone(m.body)}
}
