package postbag_test

import (
	"math"
	"reflect"
	"slices"
	"strings"
	"testing"

	"postbag/api"
	"postbag/postbag"
)

func goodConfig() api.Config {
	return api.Config{
		Host:    "mx.org",
		Domains: []string{"a.org"},
		Nets:    []api.Net{{Addr: 10 << 24, Len: 8}},
		Users:   []api.User{{Name: "u", Word: "w"}},
		To:      2, Size: 100,
		Waits: []int{5},
		Life:  50,
		Room:  1000,
	}
}

// checkWith holds the answer for the good settings, changed, against what is wanted.
func checkWith(t *testing.T, name string, want api.Errno, change func(c *api.Config)) {
	t.Helper()
	c := goodConfig()
	change(&c)
	if got := postbag.Check(c); got != want {
		t.Errorf("P4: %s: Check = %d, want %d", name, got, want)
	}
}

func okIf(ok bool) api.Errno {
	if ok {
		return api.OK
	}
	return api.ErrConfig
}

func TestCheckGood(t *testing.T) {
	checkWith(t, "as it is", api.OK, func(c *api.Config) {})
	checkWith(t, "no lists but waits", api.OK, func(c *api.Config) { c.Domains, c.Nets, c.Users = nil, nil, nil })
	checkWith(t, "empty lists", api.OK, func(c *api.Config) { c.Domains, c.Nets, c.Users = []string{}, []api.Net{}, []api.User{} })
	checkWith(t, "all at the top", api.OK, func(c *api.Config) {
		c.To, c.Size, c.Life, c.Room = api.MaxTo, api.MaxSize, api.MaxTime, api.MaxRoom
	})
	if got := postbag.Check(api.Config{}); got != api.ErrConfig {
		t.Errorf("P4: nothing set: Check = %d", got)
	}
}

func TestCheckNumbers(t *testing.T) {
	fields := []struct {
		name        string
		least, most int
		set         func(c *api.Config, n int)
	}{
		{"To", 1, api.MaxTo, func(c *api.Config, n int) { c.To = n }},
		{"Size", 1, api.MaxSize, func(c *api.Config, n int) { c.Size = n }},
		{"Life", 1, api.MaxTime, func(c *api.Config, n int) { c.Life = n }},
		{"Room", 0, api.MaxRoom, func(c *api.Config, n int) { c.Room = n }},
		{"a lone wait", 1, api.MaxTime, func(c *api.Config, n int) { c.Waits = []int{n} }},
		{"a last wait", 1, api.MaxTime, func(c *api.Config, n int) { c.Waits = []int{1, 2, 3, 4, n} }},
		{"Len of net 0", 0, 32, func(c *api.Config, n int) { c.Nets = []api.Net{{Len: n}} }},
		{"a whole Addr", 0, api.MaxAddr, func(c *api.Config, n int) { c.Nets = []api.Net{{}, {Addr: n, Len: 32}} }},
	}
	for _, f := range fields {
		for _, n := range []int{math.MinInt, -1, f.least - 1, f.least, f.least + 1, f.most - 1, f.most, f.most + 1, 2 * f.most, math.MaxInt} {
			checkWith(t, f.name, okIf(f.least <= n && n <= f.most), func(c *api.Config) { f.set(c, n) })
		}
	}
}

func TestCheckListLengths(t *testing.T) {
	lists := []struct {
		name        string
		least, most int
		set         func(c *api.Config, n int)
	}{
		{"Domains", 0, api.MaxDomains, func(c *api.Config, n int) { c.Domains = slices.Repeat([]string{"a.org"}, n) }},
		{"Nets", 0, api.MaxNets, func(c *api.Config, n int) { c.Nets = slices.Repeat([]api.Net{{Addr: 256, Len: 24}}, n) }},
		{"Users", 0, api.MaxUsers, func(c *api.Config, n int) { c.Users = usersNamed(n) }},
		{"Waits", 1, api.MaxWaits, func(c *api.Config, n int) { c.Waits = slices.Repeat([]int{7}, n) }},
	}
	for _, l := range lists {
		for _, n := range []int{0, 1, l.most - 1, l.most, l.most + 1, 100000} {
			checkWith(t, l.name, okIf(l.least <= n && n <= l.most), func(c *api.Config) { l.set(c, n) })
		}
	}
}

func usersNamed(n int) []api.User {
	users := make([]api.User, n)
	for i := range users {
		users[i] = api.User{Name: "u" + string([]byte{byte('a' + i%26), byte('a' + i/26%26), byte('a' + i/676%26), byte('a' + i/17576)}), Word: "w"}
	}
	return users
}

func TestCheckDomains(t *testing.T) {
	label := strings.Repeat("d", api.MaxLabel)
	longest := label + "." + label[1:]
	texts := []string{"a", "A.ORG", "1", "a-b", "x.y.z", label, longest, "", ".", "-", "a.", ".a", "a..b", "-a", "a-", "a_b", "a b", "a@b", "a\x00", "ü", "\xff", label + "d", longest + "d", strings.Repeat("a.", 1<<16)}
	for _, s := range texts {
		want := okIf(wantDomain(s))
		checkWith(t, "Host "+s[:min(len(s), 50)], want, func(c *api.Config) { c.Host = s })
		for i := range api.MaxDomains {
			checkWith(t, "Domains "+s[:min(len(s), 50)], want, func(c *api.Config) {
				c.Domains = slices.Repeat([]string{"a.org"}, api.MaxDomains)
				c.Domains[i] = s
			})
		}
	}
	eachText("aB0-._", 4, func(s string) {
		checkWith(t, "Host "+s, okIf(wantDomain(s)), func(c *api.Config) { c.Host = s })
	})
}

func TestCheckNets(t *testing.T) {
	for size := 0; size <= 32; size++ {
		for bit := range 34 {
			// Of the 32 bits the last 32 - Len have the values below 1 << (32 - Len).
			want := okIf(bit < 32 && bit >= 32-size)
			checkWith(t, "one bit", want, func(c *api.Config) { c.Nets[0] = api.Net{Addr: 1 << bit, Len: size} })
			checkWith(t, "one bit, last of the nets", want, func(c *api.Config) {
				c.Nets = make([]api.Net, api.MaxNets)
				c.Nets[api.MaxNets-1] = api.Net{Addr: 1 << bit, Len: size}
			})
		}
		full := api.MaxAddr &^ (1<<(32-size) - 1)
		checkWith(t, "all first bits", api.OK, func(c *api.Config) { c.Nets[0] = api.Net{Addr: full, Len: size} })
		checkWith(t, "below zero", api.ErrConfig, func(c *api.Config) { c.Nets[0] = api.Net{Addr: -1 << 32, Len: size} })
		checkWith(t, "far below zero", api.ErrConfig, func(c *api.Config) { c.Nets[0] = api.Net{Addr: math.MinInt, Len: size} })
		checkWith(t, "one too many", api.ErrConfig, func(c *api.Config) { c.Nets[0] = api.Net{Addr: api.MaxAddr + 1, Len: size} })
	}
	for _, size := range []int{math.MinInt, -33, -32, -1, 33, 64, math.MaxInt} {
		checkWith(t, "Len", api.ErrConfig, func(c *api.Config) { c.Nets[0] = api.Net{Len: size} })
	}
}

func TestCheckUserTexts(t *testing.T) {
	most := strings.Repeat("n", api.MaxLabel)
	for _, s := range []string{"a", "A", " ", "\xff", "\n", "ü", "a b@c", most, most[1:], "", most + "n", "\x00", "a\x00", "\x00a", most[1:] + "\x00", strings.Repeat("n", 1<<16)} {
		want := okIf(s != "" && len(s) <= api.MaxLabel && !strings.Contains(s, "\x00"))
		for i := range api.MaxUsers {
			checkWith(t, "Name", want, func(c *api.Config) {
				c.Users = usersNamed(api.MaxUsers)
				c.Users[i].Name = s
			})
			checkWith(t, "Word", want, func(c *api.Config) {
				c.Users = usersNamed(api.MaxUsers)
				c.Users[i].Word = s
			})
		}
	}
}

func TestCheckUserNamesDiffer(t *testing.T) {
	for i := range api.MaxUsers {
		for j := range api.MaxUsers {
			checkWith(t, "two names", okIf(i == j), func(c *api.Config) {
				c.Users = usersNamed(api.MaxUsers)
				c.Users[j].Name = c.Users[i].Name
				c.Users[j].Word = "other"
			})
		}
	}
	checkWith(t, "capital and small", api.OK, func(c *api.Config) {
		c.Users = []api.User{{Name: "u", Word: "w"}, {Name: "U", Word: "w"}}
	})
	checkWith(t, "a name that is a word", api.OK, func(c *api.Config) {
		c.Users = []api.User{{Name: "a", Word: "b"}, {Name: "b", Word: "a"}}
	})
}

// withRoom lays a list into a longer one, whose rest is the room behind it.
func withRoom[T any](list []T, behind ...T) []T {
	return slices.Concat(list, behind)[:len(list)]
}

func whole(c api.Config) api.Config {
	c.Domains = slices.Clone(c.Domains[:cap(c.Domains)])
	c.Nets = slices.Clone(c.Nets[:cap(c.Nets)])
	c.Users = slices.Clone(c.Users[:cap(c.Users)])
	c.Waits = slices.Clone(c.Waits[:cap(c.Waits)])
	return c
}

func TestCheckLeavesListsAlone(t *testing.T) {
	for _, host := range []string{"mx.org", "-"} {
		for _, life := range []int{1, 0} {
			c := goodConfig()
			c.Host, c.Life = host, life
			c.Domains = withRoom([]string{"Z.org", "B.org", "a.ORG"}, "behind", "-")
			c.Nets = withRoom([]api.Net{{Addr: 512, Len: 24}, {Addr: 256, Len: 24}}, api.Net{Addr: 7, Len: 7})
			c.Users = withRoom([]api.User{{Name: "z", Word: "w"}, {Name: "a", Word: "v"}}, api.User{Name: "z", Word: "behind"})
			c.Waits = withRoom([]int{9, 3, 5}, -1, 4)
			before := whole(c)
			if got, want := postbag.Check(c), okIf(host == "mx.org" && life == 1); got != want {
				t.Errorf("P4: Check = %d, want %d", got, want)
			}
			if after := whole(c); !reflect.DeepEqual(before, after) {
				t.Errorf("P2: the lists were %v, and are %v", before, after)
			}
		}
	}
}

func TestCheckKeepsNothing(t *testing.T) {
	c := goodConfig()
	for range 2 {
		if got := postbag.Check(c); got != api.OK {
			t.Errorf("P4: settings that may be: %d", got)
		}
		c.Waits[0] = 0
		if got := postbag.Check(c); got != api.ErrConfig {
			t.Errorf("P4: settings that may not be: %d", got)
		}
		c.Waits[0] = 5
	}
}
