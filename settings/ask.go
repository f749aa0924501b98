package settings

import (
	"slices"
	"strings"

	"postbag/address"
	"postbag/api"
)

// Copy shares no memory with c, so that the settings stay as they are whatever is done to that.
func Copy(c api.Config) api.Config {
	c.Host = strings.Clone(c.Host)
	c.Domains = slices.Clone(c.Domains)
	for i, d := range c.Domains {
		c.Domains[i] = strings.Clone(d)
	}
	c.Nets = slices.Clone(c.Nets)
	c.Users = slices.Clone(c.Users)
	for i, u := range c.Users {
		c.Users[i] = api.User{Name: strings.Clone(u.Name), Word: strings.Clone(u.Word)}
	}
	c.Waits = slices.Clone(c.Waits)
	return c
}

// HasAddr tells whether addr is in one of the nets.
func HasAddr(c api.Config, addr int) bool {
	for _, n := range c.Nets {
		behind := addressBits - n.Len
		if addr>>behind == n.Addr>>behind {
			return true
		}
	}
	return false
}

// HasDomainOf tells whether the domain of an address is one of the domains.
func HasDomainOf(c api.Config, name string) bool {
	_, domain, ok := address.Read(name)
	return ok && slices.ContainsFunc(c.Domains, func(d string) bool { return strings.EqualFold(d, domain) })
}

// HasUser tells whether one of the users is shown: by a name that may be left out, the name, and the word, with bytes 0 between them.
func HasUser(c api.Config, shown string) bool {
	for _, u := range c.Users {
		inner := "\x00" + u.Name + "\x00" + u.Word
		if shown == inner || shown == u.Name+inner {
			return true
		}
	}
	return false
}
