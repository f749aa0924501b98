// Package address: domains, and the addresses of mail that end in one.
package address

import (
	"strings"

	"postbag/api"
)

// Read cuts an address at its @, with the domain in small letters; both parts are new memory.
func Read(s string) (local, domain string, ok bool) {
	local, domain, _ = strings.Cut(s, "@")
	if !isLocal(local) || !IsDomain(domain) {
		return "", "", false
	}
	return strings.Clone(local), smallLetters(domain), true
}

// AsKept gives an address as it is kept.
func AsKept(s string) (string, bool) {
	local, domain, ok := Read(s)
	if !ok {
		return "", false
	}
	return local + "@" + domain, true
}

// IsKept tells whether s is an address as it is kept.
func IsKept(s string) bool {
	kept, ok := AsKept(s)
	return ok && kept == s
}

// IsDomain tells whether s is a domain.
func IsDomain(s string) bool {
	// The length is asked first so that a very long text is not cut up in vain.
	if len(s) > api.MaxName {
		return false
	}
	for _, label := range strings.Split(s, ".") {
		if !isLabel(label) {
			return false
		}
	}
	return true
}

func isLabel(s string) bool {
	if len(s) < 1 || len(s) > api.MaxLabel {
		return false
	}
	if strings.HasPrefix(s, "-") || strings.HasSuffix(s, "-") {
		return false
	}
	return isMadeOf(s, "-")
}

func isLocal(s string) bool {
	if len(s) < 1 || len(s) > api.MaxLabel {
		return false
	}
	if strings.HasPrefix(s, ".") || strings.HasSuffix(s, ".") || strings.Contains(s, "..") {
		return false
	}
	return isMadeOf(s, "-_+.")
}

// isMadeOf goes by bytes: a letter beyond ASCII is none here.
func isMadeOf(s, marks string) bool {
	for i := range len(s) {
		if !isLetterOrDigit(s[i]) && strings.IndexByte(marks, s[i]) < 0 {
			return false
		}
	}
	return true
}

func isLetterOrDigit(c byte) bool {
	return 'a' <= c && c <= 'z' || 'A' <= c && c <= 'Z' || '0' <= c && c <= '9'
}

// smallLetters copies in any case: strings.ToLower alone gives back s itself where it has nothing to change.
func smallLetters(s string) string {
	return strings.Clone(strings.ToLower(s))
}
