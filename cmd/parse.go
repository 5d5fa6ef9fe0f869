package cmd

import (
	"strings"

	"mailbag/addr"
	"mailbag/api"
)

// Replies' codes of lines that are no command.
const (
	noWord      = 500
	noForm      = 501
	noParameter = 555
)

const mostDigits = 9 // of a size

// Parse cuts the blanks at s's end first: what is left behind a blank then is something.
func Parse(s string) (Command, int) {
	if !isPrintable(s) {
		return bad(noWord)
	}
	said, behind, _ := strings.Cut(strings.TrimRight(s, " "), " ")
	kind := kindOf(said)
	switch kind {
	case Bad:
		return bad(noWord)
	case Helo, Ehlo:
		if !addr.Domain(behind) {
			return bad(noForm)
		}
	case Mail:
		return mail(behind)
	case Rcpt:
		return rcpt(behind)
	case Data, Rset, Quit:
		if behind != "" {
			return bad(noForm)
		}
	case Vrfy:
		if behind == "" {
			return bad(noForm)
		}
	}
	// A copy: who keeps a command does not keep all of the line with it.
	return Command{Kind: kind, Arg: strings.Clone(behind)}, 0
}

func bad(code int) (Command, int) { return Command{Kind: Bad}, code }

func isPrintable(s string) bool {
	for i := range len(s) {
		if s[i] < 0x20 || s[i] > 0x7E {
			return false
		}
	}
	return true
}

func kindOf(said string) int {
	switch addr.Lower(said) {
	case "helo":
		return Helo
	case "ehlo":
		return Ehlo
	case "mail":
		return Mail
	case "rcpt":
		return Rcpt
	case "data":
		return Data
	case "rset":
		return Rset
	case "noop":
		return Noop
	case "quit":
		return Quit
	case "vrfy":
		return Vrfy
	}
	return Bad
}

func mail(behind string) (Command, int) {
	from, rest, there := path(behind, "from:")
	if !there {
		return bad(noForm)
	}
	if rest == "" {
		return Command{Kind: Mail, Path: from, Size: noSize}, 0
	}
	size, there := sizeOf(rest)
	if !there {
		return bad(noParameter)
	}
	return Command{Kind: Mail, Path: from, Size: size}, 0
}

func rcpt(behind string) (Command, int) {
	to, rest, there := path(behind, "to:")
	switch {
	case !there || to == api.Address{}:
		return bad(noForm)
	case rest != "":
		return bad(noParameter)
	}
	return Command{Kind: Rcpt, Path: to}, 0
}

// path takes a word, blanks and a path from a text's front; what it leaves is nothing,
// or begins with a blank.
func path(text, word string) (api.Address, string, bool) {
	text, there := cutFront(text, word)
	if !there {
		return api.Address{}, "", false
	}
	a, rest, e := addr.Path(strings.TrimLeft(text, " "))
	if e != api.OK || rest != "" && rest[0] != ' ' {
		return api.Address{}, "", false
	}
	return a, rest, true
}

// cutFront takes a word, in letters of any case, from a text's front.
func cutFront(text, word string) (string, bool) {
	if len(text) < len(word) || addr.Lower(text[:len(word)]) != word {
		return "", false
	}
	return text[len(word):], true
}

// sizeOf reads all of a text as a size that is told.
func sizeOf(text string) (int, bool) {
	digits, there := cutFront(text, " size=")
	if !there || len(digits) < 1 || len(digits) > mostDigits {
		return 0, false
	}
	size := 0
	for i := range len(digits) {
		c := digits[i]
		if c < '0' || c > '9' {
			return 0, false
		}
		size = 10*size + int(c-'0')
	}
	return size, true
}
