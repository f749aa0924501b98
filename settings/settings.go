// Package settings: which settings a post may have, and whom they let send what.
package settings

import (
	"strings"

	"postbag/address"
	"postbag/api"
)

const addressBits = 32

// MayBe tells whether settings may be so.
func MayBe(c api.Config) bool {
	return address.IsDomain(c.Host) &&
		domainsMayBe(c.Domains) &&
		netsMayBe(c.Nets) &&
		usersMayBe(c.Users) &&
		isWithin(c.To, 1, api.MaxTo) &&
		isWithin(c.Size, 1, api.MaxSize) &&
		waitsMayBe(c.Waits) &&
		isWithin(c.Life, 1, api.MaxTime) &&
		isWithin(c.Room, 0, api.MaxRoom)
}

func isWithin(n, least, most int) bool {
	return least <= n && n <= most
}

func domainsMayBe(domains []string) bool {
	if len(domains) > api.MaxDomains {
		return false
	}
	for _, d := range domains {
		if !address.IsDomain(d) {
			return false
		}
	}
	return true
}

func netsMayBe(nets []api.Net) bool {
	if len(nets) > api.MaxNets {
		return false
	}
	for _, n := range nets {
		if !netMayBe(n) {
			return false
		}
	}
	return true
}

func netMayBe(n api.Net) bool {
	if !isWithin(n.Len, 0, addressBits) || !isWithin(n.Addr, 0, api.MaxAddr) {
		return false
	}
	behind := uint64(1)<<(addressBits-n.Len) - 1
	return uint64(n.Addr)&behind == 0
}

func usersMayBe(users []api.User) bool {
	if len(users) > api.MaxUsers {
		return false
	}
	for i, u := range users {
		if !isUserText(u.Name) || !isUserText(u.Word) || hasName(users[:i], u.Name) {
			return false
		}
	}
	return true
}

// isUserText refuses the byte 0 because it parts names and words where a user shows who they are.
func isUserText(s string) bool {
	return isWithin(len(s), 1, api.MaxLabel) && strings.IndexByte(s, 0) < 0
}

func hasName(users []api.User, name string) bool {
	for _, u := range users {
		if u.Name == name {
			return true
		}
	}
	return false
}

func waitsMayBe(waits []int) bool {
	if !isWithin(len(waits), 1, api.MaxWaits) {
		return false
	}
	for _, w := range waits {
		if !isWithin(w, 1, api.MaxTime) {
			return false
		}
	}
	return true
}
