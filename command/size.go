package command

import "strconv"

const mostDigits = 9

// readSize reads what may stand behind a sender: nothing, which is no size to speak of, or a size.
func readSize(s string) (int, bool) {
	if s == "" {
		return 0, true
	}
	digits, hasName := cutPrefix(s, " SIZE=")
	if !hasName || !isNumber(digits) {
		return 0, false
	}
	size, err := strconv.Atoi(digits)
	return size, err == nil
}

func isNumber(s string) bool {
	if len(s) < 1 || len(s) > mostDigits || len(s) > 1 && s[0] == '0' {
		return false
	}
	for i := range len(s) {
		if s[i] < '0' || s[i] > '9' {
			return false
		}
	}
	return true
}
