package addr

import (
	"strconv"

	"mailbag/api"
)

const (
	mostNumber = 255 // of the numbers in `[` `]`
	numbers    = 4   // of these
)

// scanner takes bytes from the front of a text. A method that finds what it is for
// takes it; behind one that does not the text is none, and what is left tells nothing.
type scanner struct {
	left string
}

// front answers 0 where nothing is left: a byte 0 may stand nowhere either.
func (s *scanner) front() byte {
	if s.left == "" {
		return 0
	}
	return s.left[0]
}

func (s *scanner) take() byte {
	c := s.front()
	if s.left != "" {
		s.left = s.left[1:]
	}
	return c
}

func (s *scanner) mark(c byte) bool {
	if s.front() != c {
		return false
	}
	s.take()
	return true
}

// run takes as many bytes of a kind as there are.
func (s *scanner) run(is func(c byte) bool) string {
	n := 0
	for n < len(s.left) && is(s.left[n]) {
		n++
	}
	taken := s.left[:n]
	s.left = s.left[n:]
	return taken
}

// dotted takes parts with `.` between, and answers how many there are; 0, if one is none.
func (s *scanner) dotted(part func() bool) int {
	for n := 1; part(); n++ {
		if !s.mark('.') {
			return n
		}
	}
	return 0
}

// path takes an address in `<` `>`.
func (s *scanner) path() (api.Address, bool) {
	if !s.mark('<') {
		return api.Address{}, false
	}
	switch s.front() {
	case '>':
		return api.Address{}, s.mark('>')
	case '@':
		if !s.route() {
			return api.Address{}, false
		}
	}
	a, there := s.mailbox()
	return a, there && s.mark('>')
}

// route passes over domains of any length, up to the `:` ahead of a Local.
func (s *scanner) route() bool {
	for s.mark('@') {
		if !domainButForLength(s.run(inDomain)) {
			return false
		}
		switch s.take() {
		case ',':
		case ':':
			return true
		default:
			return false
		}
	}
	return false
}

func (s *scanner) mailbox() (api.Address, bool) {
	local, there := s.local()
	if !there || !s.mark('@') {
		return api.Address{}, false
	}
	domain := s.run(inDomain)
	return api.Address{Local: local, Domain: domain}, domainButForLength(domain)
}

// local answers the Local that is said: of one in `"` no mark that only quotes.
func (s *scanner) local() (string, bool) {
	switch s.front() {
	case '"':
		return s.quoted()
	}
	whole := s.left
	there := s.dotted(s.word) > 0
	return whole[:len(whole)-len(s.left)], there
}

func (s *scanner) quoted() (string, bool) {
	var said []byte
	s.mark('"')
	for {
		c := s.take()
		switch c {
		case '"':
			return string(said), len(said) > 0
		case '\\':
			c = s.take()
		}
		if !isPrintable(c) {
			return "", false
		}
		said = append(said, c)
	}
}

func (s *scanner) word() bool { return s.run(inWord) != "" }

func (s *scanner) label() bool {
	label := s.run(inLabel)
	return label != "" && label[0] != '-' && label[len(label)-1] != '-'
}

// number goes by how the number is written, which tells noughts ahead of it.
func (s *scanner) number() bool {
	digits := s.run(isDigit)
	n, err := strconv.Atoi(digits)
	return err == nil && n <= mostNumber && strconv.Itoa(n) == digits
}

// domainButForLength reads all of a text as a domain that may have any length, and
// whose labels may.
func domainButForLength(domain string) bool {
	s := scanner{left: domain}
	var there bool
	switch s.front() {
	case '[':
		there = s.mark('[') && s.dotted(s.number) == numbers && s.mark(']')
	default:
		there = s.dotted(s.label) > 0
	}
	return there && s.left == ""
}

// isWords tells whether all of a Local may stand without `"`.
func isWords(local string) bool {
	s := scanner{left: local}
	return s.dotted(s.word) > 0 && s.left == ""
}

func isPrintable(c byte) bool { return 0x20 <= c && c <= 0x7E }

func isDigit(c byte) bool { return '0' <= c && c <= '9' }

func inLabel(c byte) bool {
	return isDigit(c) || 'a' <= c && c <= 'z' || 'A' <= c && c <= 'Z' || c == '-'
}

func inDomain(c byte) bool {
	switch c {
	case '.', '[', ']':
		return true
	}
	return inLabel(c)
}

func inWord(c byte) bool {
	switch c {
	case '!', '#', '$', '%', '&', '\'', '*', '+', '/', '=', '?', '^', '_', '`', '{', '|', '}', '~':
		return true
	}
	return inLabel(c) // with `-`, which may stand in a word too
}
