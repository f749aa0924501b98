package postbag_test

import (
	"encoding/base64"
	"strings"
	"testing"

	"postbag/postbag"
)

func checkBase64(t *testing.T, s, want string, ok bool) {
	t.Helper()
	got, gotOK := postbag.Base64(s)
	if got != want || gotOK != ok {
		t.Errorf("P3: Base64(%.80q) = %.80q, %v, want %.80q, %v", s, got, gotOK, want, ok)
	}
}

// wantBase64 writes again what it has read: so it refuses all but the one way to write some bytes.
func wantBase64(s string) (string, bool) {
	b, err := base64.StdEncoding.DecodeString(s)
	if err != nil || base64.StdEncoding.EncodeToString(b) != s {
		return "", false
	}
	return string(b), true
}

func TestBase64Ordinary(t *testing.T) {
	checkBase64(t, "", "", true)
	checkBase64(t, "AHUAdw==", "\x00u\x00w", true)
	checkBase64(t, "TWFu", "Man", true)
	checkBase64(t, "TWE=", "Ma", true)
	checkBase64(t, "TQ==", "M", true)
	checkBase64(t, "AAAA", "\x00\x00\x00", true)
	checkBase64(t, "////", "\xff\xff\xff", true)
	checkBase64(t, "+/+/", "\xfb\xff\xbf", true)
	checkBase64(t, "/w==", "\xff", true)
	checkBase64(t, "//8=", "\xff\xff", true)
}

func TestBase64Wrong(t *testing.T) {
	for _, s := range []string{
		"AHUAdx==", "AHUAdw=", "AHUAdw", "AHU", "A", "AA", "=", "==", "===", "====", "A===", "=AAA", "A=AA", "AA=A", "A=A=", "=A==",
		"AA==AAAA", "AAA=AAAA", "AA==AA==", "AAAA=", "AAAA==", "AAAA====", "AAAA\n", "AAAA\r\n\r\n", "AA\r\nAA", "AA=\n=", "A A=", " AAAA", "-___", "AA*A", "\x00\x00\x00\x00", "\xff\xff\xff\xff", "ÄÄ",
	} {
		checkBase64(t, s, "", false)
	}
}

func TestBase64BitsLeftOver(t *testing.T) {
	const letters = "ABCDEFGHIJKLMNOPQRSTUVWXYZabcdefghijklmnopqrstuvwxyz0123456789+/"
	for i := range letters {
		one, two := "/"+letters[i:i+1]+"==", "AA"+letters[i:i+1]+"="
		if i%16 == 0 {
			checkBase64(t, one, string([]byte{byte(63<<2 | i>>4)}), true)
		} else {
			checkBase64(t, one, "", false)
		}
		if i%4 == 0 {
			checkBase64(t, two, string([]byte{0, byte(i >> 2)}), true)
		} else {
			checkBase64(t, two, "", false)
		}
	}
}

func TestBase64EveryByte(t *testing.T) {
	for b := range 256 {
		c := string([]byte{byte(b)})
		for _, s := range []string{c, c + "AAA", "A" + c + "AA", "AA" + c + "A", "AAA" + c, "A" + c + "==", c + "A==", "AA" + c + "=", "AAAA" + c, c + c + c + c} {
			want, ok := wantBase64(s)
			checkBase64(t, s, want, ok)
		}
	}
}

func TestBase64AllShort(t *testing.T) {
	eachText("Ag/=\n", 8, func(s string) {
		want, ok := wantBase64(s)
		checkBase64(t, s, want, ok)
	})
}

func TestBase64AllLengths(t *testing.T) {
	raw := make([]byte, 600)
	for i := range raw {
		raw[i] = byte(i * 167)
	}
	for n := range raw {
		s := base64.StdEncoding.EncodeToString(raw[:n])
		checkBase64(t, s, string(raw[:n]), true)
		if n > 0 {
			checkBase64(t, s[1:], "", false)
			checkBase64(t, s+"=", "", false)
		}
	}
	huge := strings.Repeat("QUJD", 1<<18)
	checkBase64(t, huge, strings.Repeat("ABC", 1<<18), true)
	checkBase64(t, huge+"*", "", false)
	checkBase64(t, huge+"QQ=*", "", false)
}

func FuzzBase64(f *testing.F) {
	f.Add("AHUAdw==")
	f.Add("AHUAdx==")
	f.Fuzz(func(t *testing.T, s string) {
		want, ok := wantBase64(s)
		checkBase64(t, s, want, ok)
	})
}
