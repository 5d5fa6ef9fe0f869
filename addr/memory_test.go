package addr

import (
	"strings"
	"testing"
	"unsafe"

	"mailbag/api"
)

// standsIn tells whether one text is a piece of the other's memory.
func standsIn(piece, whole string) bool {
	at, from := uintptr(unsafe.Pointer(unsafe.StringData(piece))), uintptr(unsafe.Pointer(unsafe.StringData(whole)))
	return piece != "" && whole != "" && at >= from && at < from+uintptr(len(whole))
}

// made is a text in memory of its own, and those bytes, to be written over.
func made(s string) (string, []byte) {
	b := []byte(s)
	return unsafe.String(unsafe.SliceData(b), len(b)), b
}

func spoil(b []byte) {
	for i := range b {
		b[i] = '!'
	}
}

// TestAnswersOfPath: P2: no text that is answered is a piece of what was handed in, or of another.
func TestAnswersOfPath(t *testing.T) {
	for _, was := range []string{"<mail.in@example.org> SIZE=1", `<"mail in"@example.org> SIZE=1`, `<"mail"@[1.2.3.4]><mail@example.org>`, "<@one.two:mail@example.org> rest", "<> what is left"} {
		s, b := made(was)
		a, rest, e := Path(s)
		again, other, _ := Path(was)
		if s != was || a != again || rest != other || e != api.OK {
			t.Errorf("P2: Path(%q): %q, %q, %v; handed in is %q now", was, a, rest, e, s)
		}
		for _, text := range []string{a.Local, a.Domain, rest} {
			if standsIn(text, s) {
				t.Errorf("P2: Path(%q): %q is a piece of it", was, text)
			}
		}
		if standsIn(a.Domain, a.Local) || standsIn(rest, a.Local) || standsIn(rest, a.Domain) {
			t.Errorf("P2: Path(%q): two texts stand in the same memory", was)
		}
		spoil(b)
		if a != again || rest != other {
			t.Errorf("P2: Path(%q): %q, %q behind a change of its bytes", was, a, rest)
		}
	}
}

func TestAnswersOfParse(t *testing.T) {
	for _, was := range []string{"<mail.in@example.org>", `<"mail in"@example.org>`, "<@one.two:mail@example.org>"} {
		s, b := made(was)
		a, e := Parse(s)
		again, _ := Parse(was)
		if s != was || e != api.OK || standsIn(a.Local, s) || standsIn(a.Domain, s) {
			t.Errorf("P2: Parse(%q): %q, %v", was, a, e)
		}
		spoil(b)
		if a != again {
			t.Errorf("P2: Parse(%q): %q behind a change of its bytes", was, a)
		}
	}
}

func TestAnswersOfLower(t *testing.T) {
	for was, want := range map[string]string{"mail.example": "mail.example", "MAIL.Example": "mail.example", "\xff\x80": "\xff\x80"} {
		s, b := made(was)
		low := Lower(s)
		if s != was || low != want || standsIn(low, s) {
			t.Errorf("P2: Lower(%q): %q; handed in is %q now", was, low, s)
		}
		spoil(b)
		if low != want {
			t.Errorf("P2: Lower(%q): %q behind a change of its bytes", was, low)
		}
	}
}

// TestAddressesStay: P2: no call changes an address's texts, and Print keeps none of their memory.
func TestAddressesStay(t *testing.T) {
	for _, was := range []api.Address{{}, mailbox("mail.in", "Example.ORG"), mailbox("mail \"in\"", "[1.2.3.4]"), mailbox("\xff\x80", "_")} {
		local, b := made(was.Local)
		domain, c := made(was.Domain)
		a := mailbox(local, domain)
		Right(a)
		Local(local)
		Domain(domain)
		Same(a, mailbox(was.Local, Lower(was.Domain)))
		Hash(a)
		print := Print(a)
		if a != was || standsIn(print, local) || standsIn(print, domain) {
			t.Errorf("P2: Print(%q): %q", was, print)
		}
		spoil(b)
		spoil(c)
		if print != Print(was) {
			t.Errorf("P2: Print(%q): %q behind a change of its bytes", was, print)
		}
	}
}

// TestSameAgain: P3: the same calls answer the same, whatever was asked between.
func TestSameAgain(t *testing.T) {
	texts := []string{"<a@b>", "<>", `<"a b"@c>x`, "<a@b", "<" + strings.Repeat("x", 65) + "@b>", "<@x:a@b>y"}
	type answer struct {
		a    api.Address
		rest string
		e    api.Errno
	}
	first := map[string]answer{}
	for range 3 {
		for _, s := range texts {
			a, rest, e := Path(s)
			now := answer{a, rest, e}
			if was, asked := first[s]; asked && was != now {
				t.Errorf("P3: Path(%q): %v; was %v", s, now, was)
			}
			first[s] = now
			Print(a)
			Hash(a)
		}
	}
}
