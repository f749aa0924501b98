package postbag_test

import (
	"bytes"
	"encoding/binary"
	"hash/crc32"
	"io"
	"math"
	"regexp"
	"slices"
	"strings"

	"postbag/api"
)

func four(n int) string {
	return string(binary.BigEndian.AppendUint32(nil, uint32(n)))
}

func two(n int) string {
	return string(binary.BigEndian.AppendUint16(nil, uint16(n)))
}

func one(n int) string {
	return string([]byte{byte(n)})
}

// record writes a content as it is kept.
func record(content string) string {
	return four(len(content)) + four(int(crc32.ChecksumIEEE([]byte(content)))) + content
}

func records(contents ...string) string {
	all := ""
	for _, content := range contents {
		all += record(content)
	}
	return all
}

func mailRecord(id, time int, from, body string, to ...string) string {
	s := "M" + four(id) + four(time) + one(len(from)) + from + one(len(to))
	for _, name := range to {
		s += one(len(name)) + name
	}
	return s + two(len(body)) + body
}

func goneRecord(id int, places ...int) string {
	return "G" + four(id) + placeList(places)
}

func failedRecord(time, id int, places ...int) string {
	return "F" + four(time) + four(id) + placeList(places)
}

func placeList(places []int) string {
	s := one(len(places))
	for _, place := range places {
		s += one(place)
	}
	return s
}

// wantedMail has all that it ever had, so that a place means what it did when the mail was written.
type wantedMail struct {
	api.Mail
	left [256]bool
}

// wantedBag reads what is kept a second way: by the library, into lists that only grow.
type wantedBag struct {
	mails []*wantedMail
	time  int
	size  int
}

func wantRead(kept string) *wantedBag {
	b := &wantedBag{}
	all := []byte(kept)
	for {
		rest := all[b.size:]
		if len(rest) < 8 {
			return b
		}
		size, sum := uint64(binary.BigEndian.Uint32(rest)), binary.BigEndian.Uint32(rest[4:])
		if uint64(len(rest)) < 8+size {
			return b
		}
		content := rest[8 : 8+size]
		if crc32.ChecksumIEEE(content) != sum || !b.take(content) {
			return b
		}
		b.size += 8 + int(size)
	}
}

func (b *wantedBag) queue() []api.Mail {
	var queue []api.Mail
	for _, m := range b.mails {
		told := m.Mail
		told.To = nil
		for place, name := range m.To {
			if !m.left[place] {
				told.To = append(told.To, name)
			}
		}
		if told.To != nil {
			queue = append(queue, told)
		}
	}
	return queue
}

// take throws what is too short as a panic, so that the reading is the document's list and no more.
func (b *wantedBag) take(content []byte) (ok bool) {
	defer func() {
		if recover() != nil {
			ok = false
		}
	}()
	in := bytes.NewReader(content)
	switch string(chunk(in, 1)) {
	case "M":
		return b.takeMail(in)
	case "G":
		return b.takeLeaving(in, 0)
	case "F":
		return b.takeLeaving(in, 4)
	}
	return false
}

func chunk(in *bytes.Reader, size int) []byte {
	part := make([]byte, size)
	if _, err := io.ReadFull(in, part); err != nil {
		panic(err)
	}
	return part
}

func wide(in *bytes.Reader) int {
	return int(binary.BigEndian.Uint32(chunk(in, 4)))
}

func narrow(in *bytes.Reader) int {
	return int(chunk(in, 1)[0])
}

var keptAddress = regexp.MustCompile(`^[a-zA-Z0-9_+-]+(\.[a-zA-Z0-9_+-]+)*@[a-z0-9]([a-z0-9-]*[a-z0-9])?(\.[a-z0-9]([a-z0-9-]*[a-z0-9])?)*\z`)

func wantKeptAddress(s string) bool {
	if !keptAddress.MatchString(s) {
		return false
	}
	at := strings.Index(s, "@")
	for _, label := range strings.Split(s[at+1:], ".") {
		if len(label) > 20 {
			return false
		}
	}
	return at <= 20 && len(s)-at-1 <= 40
}

func (b *wantedBag) takeMail(in *bytes.Reader) bool {
	m := &wantedMail{}
	m.ID, m.Time = wide(in), wide(in)
	m.From = string(chunk(in, narrow(in)))
	for range narrow(in) {
		m.To = append(m.To, string(chunk(in, narrow(in))))
	}
	m.Body = string(chunk(in, int(binary.BigEndian.Uint16(chunk(in, 2)))))
	different := map[string]bool{}
	for _, name := range m.To {
		different[name] = wantKeptAddress(name)
	}
	for _, may := range different {
		if !may {
			return false
		}
	}
	may := in.Len() == 0 && m.ID == len(b.mails)+1 && m.Time <= 1000000000 && m.Time >= b.time &&
		(m.From == "" || wantKeptAddress(m.From)) && len(m.To) >= 1 && len(m.To) <= 10 &&
		len(different) == len(m.To) && len(m.Body) <= 1000
	if may {
		b.mails = append(b.mails, m)
		b.time = m.Time
	}
	return may
}

func (b *wantedBag) takeLeaving(in *bytes.Reader, timeSize int) bool {
	time := b.time
	if timeSize > 0 {
		time = wide(in)
	}
	id := wide(in)
	places := chunk(in, narrow(in))
	if in.Len() != 0 || len(places) == 0 || time < b.time || time > 1000000000 || id < 1 || id > len(b.mails) {
		return false
	}
	m := b.mails[id-1]
	last := math.MinInt
	for _, place := range places {
		if int(place) <= last || int(place) >= len(m.To) || m.left[place] {
			return false
		}
		last = int(place)
	}
	lines := []string{"Not delivered:"}
	for _, place := range places {
		m.left[place] = true
		lines = append(lines, m.To[place])
	}
	b.time = time
	if timeSize > 0 && m.From != "" {
		b.mails = append(b.mails, &wantedMail{Mail: api.Mail{ID: len(b.mails) + 1, Time: time, To: []string{m.From}, Body: strings.Join(lines, "\r\n")}})
	}
	return true
}

// sameMails holds an empty list and none for the same.
func sameMails(got, want []api.Mail) bool {
	return slices.EqualFunc(got, want, func(a, b api.Mail) bool {
		return a.ID == b.ID && a.Time == b.Time && a.From == b.From && a.Body == b.Body && slices.Equal(a.To, b.To)
	})
}
