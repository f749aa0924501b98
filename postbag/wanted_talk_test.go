package postbag_test

import (
	"math/big"
	"regexp"
	"slices"
	"strconv"
	"strings"

	"postbag/api"
)

// wantedPost talks a second way: it holds all that ever came, cuts it anew each time, and asks forms for the commands.
type wantedPost struct {
	config  api.Config
	kept    string
	conns   []*wantedConn
	handing wantedHanding
}

type wantedConn struct {
	addr    int
	came    string
	heard   int // lines
	state   map[string]bool
	from    string
	to      []string
	body    []string
	bodyBad bool
}

var (
	badForm   = regexp.MustCompile(`[^\x01-\x09\x0b\x0c\x0e-\x7e]`)
	wordForm  = regexp.MustCompile(`\A(?i:quit|rset|noop|data|helo|ehlo|auth|mail|rcpt)( |\z)`)
	loneForm  = regexp.MustCompile(`\A(?i:quit|rset|noop|data)\z`)
	greetForm = regexp.MustCompile(`\A(?i:helo|ehlo) (.*)\z`)
	authForm  = regexp.MustCompile(`\A(?i:auth plain) (.*)\z`)
	mailForm  = regexp.MustCompile(`\A(?i:mail from):<(.*?)>(?: (?i:size)=(0|[1-9][0-9]{0,8}))?\z`)
	rcptForm  = regexp.MustCompile(`\A(?i:rcpt to):<(.*)>\z`)
)

func wantedOpen(c api.Config, kept string) *wantedPost {
	read := wantRead(kept)
	return &wantedPost{config: c, kept: kept[:read.size], handing: wantedHanding{time: read.time, openTime: read.time, openMails: len(read.mails)}}
}

func (p *wantedPost) connect(addr int) (int, string, api.Errno) {
	if addr < 0 || addr >= 1<<32 || len(p.conns) >= 100 {
		return 0, "", api.ErrArg
	}
	p.conns = append(p.conns, &wantedConn{addr: addr, state: map[string]bool{}})
	return len(p.conns) - 1, "220 " + p.config.Host + "\r\n", api.OK
}

func (p *wantedPost) find(conn int) *wantedConn {
	if conn < 0 || conn >= len(p.conns) || p.conns[conn].state["closed"] {
		return nil
	}
	return p.conns[conn]
}

func (p *wantedPost) receive(conn int, b string) (string, api.Errno) {
	c := p.find(conn)
	if c == nil {
		return "", api.ErrClosed
	}
	c.came += b
	all := strings.Split(c.came, "\r\n")
	said := ""
	for c.heard < len(all)-1 && !c.state["closed"] {
		line := all[c.heard]
		c.heard++
		if c.state["body"] {
			said += p.hearBody(c, line)
		} else {
			said += p.obey(c, line) + "\r\n"
		}
	}
	return said, api.OK
}

func (p *wantedPost) close(conn int) api.Errno {
	c := p.find(conn)
	if c == nil {
		return api.ErrClosed
	}
	c.state["closed"] = true
	return api.OK
}

func wantBad(line string) bool {
	return len(line) > 100 || badForm.MatchString(line)
}

// wantForm tells the parts of a line that is written as it has to be.
func wantForm(line string) ([]string, bool) {
	if loneForm.MatchString(line) {
		return nil, true
	}
	if m := greetForm.FindStringSubmatch(line); m != nil {
		return m, wantDomain(m[1])
	}
	if m := authForm.FindStringSubmatch(line); m != nil {
		bytes, ok := wantBase64(m[1])
		return []string{"", bytes}, ok
	}
	if m := mailForm.FindStringSubmatch(line); m != nil {
		local, domain, ok := wantAddress(m[1])
		if m[1] == "" {
			return []string{"", "", m[2]}, true
		}
		return []string{"", local + "@" + domain, m[2]}, ok
	}
	if m := rcptForm.FindStringSubmatch(line); m != nil {
		local, domain, ok := wantAddress(m[1])
		return []string{"", local + "@" + domain, domain}, ok
	}
	return nil, false
}

func (c *wantedConn) over() {
	c.state["mail"], c.state["body"], c.bodyBad = false, false, false
	c.from, c.to, c.body = "", nil, nil
}

func (p *wantedPost) obey(c *wantedConn, line string) string {
	if wantBad(line) || !wordForm.MatchString(line) {
		return "500 what"
	}
	parts, ok := wantForm(line)
	if !ok {
		return "501 how"
	}
	word := strings.ToLower(line[:4])
	switch word {
	case "quit":
		c.state["closed"] = true
		return "221 bye"
	case "noop":
		return "250 ok"
	case "helo", "ehlo":
		c.over()
		c.state["greeted"] = true
		if word == "helo" {
			return "250 " + p.config.Host
		}
		return "250-" + p.config.Host + "\r\n250-SIZE " + strconv.Itoa(p.config.Size) + "\r\n250 AUTH PLAIN"
	case "rset":
		c.over()
		return "250 ok"
	}
	if !c.state["greeted"] {
		return "503 first"
	}
	switch word {
	case "auth":
		return p.auth(c, parts[1])
	case "mail":
		return p.mail(c, parts[1], parts[2])
	case "rcpt":
		return p.rcpt(c, parts[1], parts[2])
	}
	if !c.state["mail"] || len(c.to) == 0 {
		return "503 first"
	}
	c.state["body"] = true
	return "354 go"
}

func (p *wantedPost) auth(c *wantedConn, bytes string) string {
	if c.state["mail"] || c.state["known"] {
		return "503 first"
	}
	parts := strings.Split(bytes, "\x00")
	for _, u := range p.config.Users {
		if len(parts) == 3 && (parts[0] == "" || parts[0] == parts[1]) && parts[1] == u.Name && parts[2] == u.Word {
			c.state["known"] = true
			return "235 ok"
		}
	}
	return "535 no"
}

func (p *wantedPost) mail(c *wantedConn, from, size string) string {
	if c.state["mail"] {
		return "503 first"
	}
	n, _ := strconv.Atoi("0" + size)
	if n > p.config.Size {
		return "552 size"
	}
	c.state["mail"], c.from = true, from
	return "250 ok"
}

// wantInNet writes both addresses as 32 digits of two.
func wantInNet(addr int, n api.Net) bool {
	digits := func(a int) string {
		s := big.NewInt(int64(a)).Text(2)
		return strings.Repeat("0", 32-len(s)) + s
	}
	return digits(addr)[:n.Len] == digits(n.Addr)[:n.Len]
}

func wantMaySend(config api.Config, addr int, known bool, domain string) bool {
	may := known
	for _, n := range config.Nets {
		may = may || wantInNet(addr, n)
	}
	for _, d := range config.Domains {
		may = may || strings.ToLower(d) == domain
	}
	return may
}

func (p *wantedPost) rcpt(c *wantedConn, name, domain string) string {
	switch {
	case !c.state["mail"]:
		return "503 first"
	case slices.Contains(c.to, name):
		return "250 ok"
	case len(c.to) >= p.config.To:
		return "452 many"
	case !wantMaySend(p.config, c.addr, c.state["known"], domain):
		return "550 no"
	}
	c.to = append(c.to, name)
	return "250 ok"
}

func (p *wantedPost) hearBody(c *wantedConn, line string) string {
	if line != "." {
		c.bodyBad = c.bodyBad || wantBad(line)
		c.body = append(c.body, strings.TrimPrefix(line, "."))
		return ""
	}
	defer c.over()
	text := strings.Join(c.body, "\r\n")
	if c.bodyBad {
		return "500 what\r\n"
	}
	if len(text) > p.config.Size {
		return "552 size\r\n"
	}
	before := wantRead(p.kept)
	written := record(mailRecord(len(before.mails)+1, p.handing.time, c.from, text, c.to...))
	if len(p.kept)+len(written) > p.config.Room {
		return "452 room\r\n"
	}
	p.kept += written
	return "250 kept " + strconv.Itoa(len(before.mails)+1) + "\r\n"
}
