// Package command: what a line asks for that stands outside of a body.
package command

import (
	"strings"

	"postbag/address"
	"postbag/lines"
	"postbag/sixbits"
)

// Verb is what a command is to do.
type Verb int

const (
	Unknown Verb = iota // a line that is no command
	Wrong               // a command that is not written as it has to be
	Quit
	Noop
	Rset
	Data
	Helo
	Ehlo
	Auth
	Mail
	Rcpt
)

// Command is a line that was read. Its texts are new memory.
type Command struct {
	Verb  Verb
	Name  string // of Mail the sender, of Rcpt the recipient, as they are kept
	Size  int    // of Mail: how many bytes are to be expected
	Shown string // of Auth: the bytes by which a user is to be known
}

// Read reads a line.
func Read(line lines.Line) Command {
	if line.IsBad {
		return Command{Verb: Unknown}
	}
	word, argument, hasArgument := strings.Cut(line.Text, " ")
	switch strings.ToUpper(word) {
	case "QUIT":
		return readLone(Quit, hasArgument)
	case "NOOP":
		return readLone(Noop, hasArgument)
	case "RSET":
		return readLone(Rset, hasArgument)
	case "DATA":
		return readLone(Data, hasArgument)
	case "HELO":
		return readGreeting(Helo, argument)
	case "EHLO":
		return readGreeting(Ehlo, argument)
	case "AUTH":
		return readAuth(argument)
	case "MAIL":
		return readMail(argument)
	case "RCPT":
		return readRcpt(argument)
	}
	return Command{Verb: Unknown}
}

func readLone(verb Verb, hasArgument bool) Command {
	if hasArgument {
		return Command{Verb: Wrong}
	}
	return Command{Verb: verb}
}

func readGreeting(verb Verb, argument string) Command {
	if !address.IsDomain(argument) {
		return Command{Verb: Wrong}
	}
	return Command{Verb: verb}
}

func readAuth(argument string) Command {
	letters, isPlain := cutPrefix(argument, "PLAIN ")
	shown, isWritten := sixbits.Read(letters)
	if !isPlain || !isWritten {
		return Command{Verb: Wrong}
	}
	return Command{Verb: Auth, Shown: shown}
}

func readMail(argument string) Command {
	rest, hasFrom := cutPrefix(argument, "FROM:<")
	name, behind, hasEnd := strings.Cut(rest, ">")
	kept, isAddress := address.AsKept(name)
	size, isSize := readSize(behind)
	if !hasFrom || !hasEnd || !isAddress && name != "" || !isSize {
		return Command{Verb: Wrong}
	}
	return Command{Verb: Mail, Name: kept, Size: size}
}

func readRcpt(argument string) Command {
	rest, hasTo := cutPrefix(argument, "TO:<")
	name, hasEnd := strings.CutSuffix(rest, ">")
	kept, isAddress := address.AsKept(name)
	if !hasTo || !hasEnd || !isAddress {
		return Command{Verb: Wrong}
	}
	return Command{Verb: Rcpt, Name: kept}
}

// cutPrefix takes capital and small letters for the same.
func cutPrefix(s, prefix string) (string, bool) {
	if len(s) < len(prefix) || !strings.EqualFold(s[:len(prefix)], prefix) {
		return "", false
	}
	return s[len(prefix):], true
}
