package record

import "postbag/api"

// Whole gives the record of a content.
func Whole(content string) string {
	b := appendNumber(nil, len(content), sizeBytes)
	b = appendNumber(b, int(sum(content)), sumBytes)
	return string(b) + content
}

// Size tells how long the record of a content is.
func Size(content string) int {
	return sizeBytes + sumBytes + len(content)
}

// WriteMail gives the content that ReadMail reads.
func WriteMail(m api.Mail) string {
	b := []byte(mailKind)
	b = appendNumber(b, m.ID, idBytes)
	b = appendNumber(b, m.Time, timeBytes)
	b = appendText(b, m.From, nameBytes)
	b = appendNumber(b, len(m.To), countBytes)
	for _, name := range m.To {
		b = appendText(b, name, nameBytes)
	}
	return string(appendText(b, m.Body, bodyLenBytes))
}

// WriteGone gives the content that ReadGone reads.
func WriteGone(l Leaving) string {
	return string(appendLeaving([]byte(goneKind), l))
}

// WriteFailed gives the content that ReadFailed reads.
func WriteFailed(time int, l Leaving) string {
	b := appendNumber([]byte(failedKind), time, timeBytes)
	return string(appendLeaving(b, l))
}

func appendLeaving(b []byte, l Leaving) []byte {
	b = appendNumber(b, l.ID, idBytes)
	b = appendNumber(b, len(l.Places), countBytes)
	for _, place := range l.Places {
		b = appendNumber(b, place, placeBytes)
	}
	return b
}

// appendNumber writes a number with its highest byte first.
func appendNumber(b []byte, n, size int) []byte {
	for shift := 8 * (size - 1); shift >= 0; shift -= 8 {
		b = append(b, byte(n>>shift))
	}
	return b
}

// appendText writes a text with its length ahead of it, in lengthSize bytes.
func appendText(b []byte, s string, lengthSize int) []byte {
	return append(appendNumber(b, len(s), lengthSize), s...)
}
