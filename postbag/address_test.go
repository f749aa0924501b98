package postbag_test

import (
	"regexp"
	"strings"
	"testing"

	"postbag/api"
	"postbag/postbag"
)

// The document's words a second time, in another form, to hold the answers against.
var (
	localForm  = regexp.MustCompile(`\A[A-Za-z0-9_+-]+(\.[A-Za-z0-9_+-]+)*\z`)
	domainForm = regexp.MustCompile(`\A[A-Za-z0-9]([A-Za-z0-9-]*[A-Za-z0-9])?(\.[A-Za-z0-9]([A-Za-z0-9-]*[A-Za-z0-9])?)*\z`)
)

func wantDomain(s string) bool {
	if len(s) > api.MaxName || !domainForm.MatchString(s) {
		return false
	}
	for _, label := range strings.Split(s, ".") {
		if len(label) > api.MaxLabel {
			return false
		}
	}
	return true
}

func wantAddress(s string) (string, string, bool) {
	at := strings.LastIndex(s, "@")
	if at < 0 {
		return "", "", false
	}
	local, domain := s[:at], s[at+1:]
	if len(local) > api.MaxLabel || !localForm.MatchString(local) || !wantDomain(domain) {
		return "", "", false
	}
	return local, strings.ToLower(domain), true
}

func checkAddress(t *testing.T, s, local, domain string, ok bool) {
	t.Helper()
	gotLocal, gotDomain, gotOK := postbag.Address(s)
	if gotLocal != local || gotDomain != domain || gotOK != ok {
		t.Errorf("P3: Address(%q) = %q, %q, %v, want %q, %q, %v", s, gotLocal, gotDomain, gotOK, local, domain, ok)
	}
}

// eachText goes through all texts of up to most of the letters.
func eachText(letters string, most int, do func(string)) {
	var grow func(s string)
	grow = func(s string) {
		do(s)
		if len(s) == most {
			return
		}
		for i := range len(letters) {
			grow(s + letters[i:i+1])
		}
	}
	grow("")
}

func TestAddressOrdinary(t *testing.T) {
	checkAddress(t, "x.y+z@A.b-1", "x.y+z", "a.b-1", true)
	checkAddress(t, "b@A.ORG", "b", "a.org", true)
	checkAddress(t, "Joe.Doe@Mail.Example.ORG", "Joe.Doe", "mail.example.org", true)
	checkAddress(t, "AZaz09-_+@AZaz09", "AZaz09-_+", "azaz09", true)
	checkAddress(t, "-a-@b--c", "-a-", "b--c", true)
	checkAddress(t, "7@1.2.3", "7", "1.2.3", true)
}

func TestAddressWrong(t *testing.T) {
	for _, s := range []string{
		"", "@", "x", "a.org", "@a", "x@", ".x@a", "x.@a", ".@a", "x..y@a", "x@-a", "x@a-", "x@-", "x@b.-a", "x@b-.a",
		"x@a.", "x@.a", "x@.", "x@a..b", "x@a@b", "x@@b", "x@a@", "@x@a", "<x@a>", " x@a", "x@a ", "x @a", "x@a_b", "x@a+b",
		"x\x00@a", "x@a\x00", "x@a\r\n", "x@\n", "ü@a", "x@ü", "x@\u212a", "\xff@a", "x@\xff",
	} {
		checkAddress(t, s, "", "", false)
	}
}

func TestAddressLengths(t *testing.T) {
	label := strings.Repeat("Q", api.MaxLabel)
	small := strings.ToLower(label)
	checkAddress(t, label+"@"+label, label, small, true)
	checkAddress(t, label+"Q@a", "", "", false)
	checkAddress(t, strings.Repeat("q.", api.MaxLabel/2)+"q@a", "", "", false)
	checkAddress(t, "a@"+label+"Q", "", "", false)
	checkAddress(t, "a@b."+label+"Q", "", "", false)
	checkAddress(t, "a@"+label+"Q.b", "", "", false)

	longest := label + "." + label[:api.MaxName-api.MaxLabel-1]
	checkAddress(t, label+"@"+longest, label, strings.ToLower(longest), true)
	checkAddress(t, "a@"+longest[:api.MaxName-1], "a", strings.ToLower(longest[:api.MaxName-1]), true)
	checkAddress(t, "a@"+longest+"Q", "", "", false)
	checkAddress(t, "a@"+strings.Repeat("x.", api.MaxName/2)+"y", "", "", false)

	huge := strings.Repeat("a", 1<<20)
	for _, s := range []string{huge, huge + "@a", "a@" + huge, strings.Repeat("@", 1<<20), "a@" + strings.Repeat("a.", 1<<20), strings.Repeat("a.", 1<<20) + "@a"} {
		checkAddress(t, s, "", "", false)
	}
}

func TestAddressEveryByte(t *testing.T) {
	for b := range 256 {
		c := string([]byte{byte(b)})
		for _, s := range []string{c, c + "@a", "x" + c + "y@a", "x@" + c, "x@a" + c + "b", "x@a" + c, "x" + c + "a"} {
			local, domain, ok := wantAddress(s)
			checkAddress(t, s, local, domain, ok)
		}
	}
}

func TestAddressAllShort(t *testing.T) {
	eachText("aB0-_+.@ ", 5, func(s string) {
		local, domain, ok := wantAddress(s)
		checkAddress(t, s, local, domain, ok)
	})
	eachText("aB.-", 6, func(s string) {
		local, domain, ok := wantAddress("x@" + s)
		checkAddress(t, "x@"+s, local, domain, ok)
	})
}

func FuzzAddress(f *testing.F) {
	f.Add("x.y+z@A.b-1")
	f.Add("x@a@b")
	f.Fuzz(func(t *testing.T, s string) {
		local, domain, ok := wantAddress(s)
		checkAddress(t, s, local, domain, ok)
	})
}
