// Package sixbits: bytes that are written in letters of six bits each (base64).
package sixbits

import "strings"

const (
	lettersInGroup = 4
	bytesInGroup   = 3
)

// Read gives the bytes that s stands for. There is just one way to write some bytes, so all else is refused.
func Read(s string) (string, bool) {
	if len(s)%lettersInGroup != 0 {
		return "", false
	}
	var out strings.Builder
	for len(s) > 0 {
		group, ok := readGroup(s[:lettersInGroup])
		s = s[lettersInGroup:]
		// Only the last group may be short of bytes.
		if !ok || len(group) < bytesInGroup && len(s) > 0 {
			return "", false
		}
		out.WriteString(group)
	}
	return out.String(), true
}

func readGroup(s string) (string, bool) {
	size := bytesStood(s)
	word, ok := readLetters(s[:size+1])
	if !ok {
		return "", false
	}
	three := [bytesInGroup]byte{byte(word >> 16), byte(word >> 8), byte(word)}
	for _, left := range three[size:] {
		if left != 0 {
			return "", false
		}
	}
	return string(three[:size]), true
}

// bytesStood tells by its end how many bytes a group stands for.
func bytesStood(group string) int {
	switch {
	case strings.HasSuffix(group, "=="):
		return 1
	case strings.HasSuffix(group, "="):
		return 2
	}
	return bytesInGroup
}

// readLetters puts the letters' bits at the top of 24 bits.
func readLetters(s string) (uint32, bool) {
	word := uint32(0)
	for i := range len(s) {
		value, ok := letterValue(s[i])
		if !ok {
			return 0, false
		}
		word |= value << (18 - 6*i)
	}
	return word, true
}

func letterValue(c byte) (uint32, bool) {
	switch {
	case 'A' <= c && c <= 'Z':
		return uint32(c - 'A'), true
	case 'a' <= c && c <= 'z':
		return uint32(c-'a') + 26, true
	case '0' <= c && c <= '9':
		return uint32(c-'0') + 52, true
	case c == '+':
		return 62, true
	case c == '/':
		return 63, true
	}
	return 0, false
}
