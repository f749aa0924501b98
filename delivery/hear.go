package delivery

import (
	"strings"

	"postbag/lines"
)

// step is what was said last.
type step int

const (
	saidNothing step = iota
	saidHello
	saidSender
	saidRecipient
	saidData
	saidBody
	saidQuit
)

// What an answer means is told by its first digit.
const (
	isYes   = 2
	isGoOn  = 3
	isNever = 5
)

// dot ends a body where it is a whole line; so a line of the body that begins with one has one more.
const dot = "."

// Hear takes the other host's answer to what was said last, and gives what is said next.
func (t *Talk) Hear(code int) string {
	answer := code / 100
	switch t.said {
	case saidNothing:
		return t.hearGreeting(answer)
	case saidHello:
		return t.hearHello(answer)
	case saidSender:
		return t.hearSender(answer)
	case saidRecipient:
		return t.hearRecipient(answer)
	case saidData:
		return t.hearData(answer)
	case saidBody:
		return t.hearBody(answer)
	}
	defer t.End()
	return ""
}

func (t *Talk) hearGreeting(answer int) string {
	if answer == isYes {
		return t.say(saidHello, "EHLO "+t.settings.Host)
	}
	return t.sayQuit()
}

func (t *Talk) hearHello(answer int) string {
	if answer == isYes {
		return t.say(saidSender, "MAIL FROM:<"+t.mail.From+">")
	}
	return t.sayQuit()
}

func (t *Talk) hearSender(answer int) string {
	switch answer {
	case isYes:
		return t.ask()
	case isNever:
		t.failed(t.unasked)
	}
	return t.sayQuit()
}

func (t *Talk) hearRecipient(answer int) string {
	asked := t.unasked[:1]
	t.unasked = t.unasked[1:]
	switch answer {
	case isYes:
		t.willing = append(t.willing, asked...)
	case isNever:
		t.failed(asked)
	}
	return t.ask()
}

func (t *Talk) hearData(answer int) string {
	switch answer {
	case isGoOn:
		return t.say(saidBody, withDots(t.mail.Body)+lines.End+dot)
	case isNever:
		t.failed(t.willing)
	}
	return t.sayQuit()
}

func (t *Talk) hearBody(answer int) string {
	switch answer {
	case isYes:
		t.gone(t.willing)
	case isNever:
		t.failed(t.willing)
	}
	return t.sayQuit()
}

// ask asks for the next recipient, and behind the last one whether those who are willing may have the mail.
func (t *Talk) ask() string {
	switch {
	case len(t.unasked) > 0:
		return t.say(saidRecipient, "RCPT TO:<"+t.unasked[0].Name+">")
	case len(t.willing) > 0:
		return t.say(saidData, "DATA")
	}
	return t.sayQuit()
}

func (t *Talk) sayQuit() string {
	return t.say(saidQuit, "QUIT")
}

func (t *Talk) say(s step, text string) string {
	t.said = s
	return text + lines.End
}

func withDots(body string) string {
	all := strings.Split(body, lines.End)
	for i, line := range all {
		if strings.HasPrefix(line, dot) {
			all[i] = dot + line
		}
	}
	return strings.Join(all, lines.End)
}
