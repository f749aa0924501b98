package record

import (
	"hash/crc32"
	"strings"
	"testing"
)

func TestSum(t *testing.T) {
	if got := sum("123456789"); got != 0xCBF43926 {
		t.Errorf("sum of the document's bytes: %X", got)
	}
	texts := []string{"", "\x00", "\xff", "\x80", "\x01", "ü", strings.Repeat("\x00", 300), strings.Repeat("\xff", 300)}
	for i := range 256 {
		texts = append(texts, string([]byte{byte(i)}), string([]byte{byte(i), byte(255 - i), byte(i * 7)}))
	}
	for _, s := range texts {
		if got, want := sum(s), crc32.ChecksumIEEE([]byte(s)); got != want {
			t.Errorf("sum of %x: %X, want %X", s, got, want)
		}
	}
}

// Contents of any kind are cut, and such as no record has: whether they may be is asked of them later.
func TestCut(t *testing.T) {
	const nine = "\x00\x00\x00\x09\xcb\xf4\x39\x26123456789"
	const empty = "\x00\x00\x00\x00\x00\x00\x00\x00"
	whole := []struct{ s, content, rest string }{
		{nine, "123456789", ""},
		{nine + "0", "123456789", "0"},
		{nine + nine, "123456789", nine},
		{empty, "", ""},
		{empty + nine, "", nine},
	}
	for _, w := range whole {
		content, rest, ok := Cut(w.s)
		if content != w.content || rest != w.rest || !ok {
			t.Errorf("Cut(%q) = %q, %q, %v", w.s, content, rest, ok)
		}
	}
	refused := []string{"1\x00\x00\x09" + nine[4:], "\x00\x00\x00\x08" + nine[4:], "\x00\x00\x00\x0a" + nine[4:] + "0", "\xff\xff\xff\xff" + nine[4:], empty[:7] + "\x01"}
	for i := range len(nine) {
		refused = append(refused, nine[:i])
	}
	for _, s := range refused {
		if content, rest, ok := Cut(s); content != "" || rest != "" || ok {
			t.Errorf("Cut(%q) = %q, %q, %v", s, content, rest, ok)
		}
	}
}

// What is refused gives nothing else, so that no half-read part of it can be taken for one.
func TestReadRefused(t *testing.T) {
	refused := []string{"", "M", "G", "F", "X", "M\x00\x00\x00\x01\x00\x00\x00\x03\x00\x01\x03a@B\x00\x00", "G\x00\x00\x00\x01\x02\x01\x00", "G\x00\x00\x00\x01\x00", "F\x00\x00\x00\x09\x00\x00\x00\x01\x01\x00!", "F\x3b\x9a\xca\x01\x00\x00\x00\x01\x01\x00"}
	for _, s := range refused {
		if m, ok := ReadMail(s); m.ID != 0 || m.Time != 0 || m.From != "" || m.To != nil || m.Body != "" || ok {
			t.Errorf("ReadMail(%q) = %v, %v", s, m, ok)
		}
		if l, ok := ReadGone(s); l.ID != 0 || l.Places != nil || ok {
			t.Errorf("ReadGone(%q) = %v, %v", s, l, ok)
		}
		if time, l, ok := ReadFailed(s); time != 0 || l.ID != 0 || l.Places != nil || ok {
			t.Errorf("ReadFailed(%q) = %d, %v, %v", s, time, l, ok)
		}
	}
}
