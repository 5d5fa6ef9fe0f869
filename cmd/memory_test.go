package cmd

import (
	"testing"
	"unsafe"
)

// standsIn tells whether one text is a piece of the other's memory.
func standsIn(piece, whole string) bool {
	at, from := uintptr(unsafe.Pointer(unsafe.StringData(piece))), uintptr(unsafe.Pointer(unsafe.StringData(whole)))
	return piece != "" && whole != "" && at >= from && at < from+uintptr(len(whole))
}

// made is a text in memory of its own, and those bytes, to be written over.
func made(s string) (string, []byte) {
	b := []byte(s)
	return unsafe.String(unsafe.SliceData(b), len(b)), b
}

func spoil(b []byte) {
	for i := range b {
		b[i] = '!'
	}
}

// TestAnswersOfParse: P2: what is handed in is not changed, and no text that is answered is a piece of it.
func TestAnswersOfParse(t *testing.T) {
	texts := []string{"", "foo", "HELO mail.Example.ORG", "ehlo [1.2.3.4]  ", "MAIL from: <mail.in@example.org> SIZE=12", `Mail From:<"mail in"@example.org>`, "RCPT To:<@one.two:mail@example.org>", "NOOP what is said", "Vrfy  mailbox ", "DATA", "mail from:<a@b> x", "rcpt to:<>"}
	for _, was := range texts {
		s, b := made(was)
		c, code := Parse(s)
		again, other := Parse(was)
		if s != was || c != again || code != other {
			t.Errorf("P2: Parse(%q): %+v, %d; handed in is %q now", was, c, code, s)
		}
		for _, text := range []string{c.Arg, c.Path.Local, c.Path.Domain} {
			if standsIn(text, s) {
				t.Errorf("P2: Parse(%q): %q is a piece of it", was, text)
			}
		}
		spoil(b)
		if c != again {
			t.Errorf("P2: Parse(%q): %+v behind a change of its bytes", was, c)
		}
	}
}

// TestCommandsStay: P2: no call changes a command's texts, and Print keeps none of their memory.
func TestCommandsStay(t *testing.T) {
	for kind := -1; kind <= Vrfy+1; kind++ {
		for _, was := range []Command{
			{Arg: "mail.Example.ORG", Path: mailbox("Mail.in", "Example.ORG"), Size: 7},
			{Arg: " what is said ", Path: mailbox(`mail "in"`, "[1.2.3.4]"), Size: -1},
			{Arg: "é\xff\r\n", Path: mailbox("é\xff", "_")},
		} {
			was.Kind = kind
			c := was
			var bytes [3][]byte
			c.Arg, bytes[0] = made(was.Arg)
			c.Path.Local, bytes[1] = made(was.Path.Local)
			c.Path.Domain, bytes[2] = made(was.Path.Domain)
			print := Print(c)
			Right(c)
			if c != was {
				t.Errorf("P2: %+v is %+v now", was, c)
			}
			for i, text := range []string{c.Arg, c.Path.Local, c.Path.Domain} {
				if standsIn(print, text) {
					t.Errorf("P2: Print(%+v): a piece of what was handed in", was)
				}
				spoil(bytes[i])
			}
			if want := Print(was); print != want {
				t.Errorf("P2: Print(%+v): %q behind a change of its bytes; want %q", was, print, want)
			}
		}
	}
}

// TestSameAgain: P3: the same calls answer the same, whatever was asked between.
func TestSameAgain(t *testing.T) {
	for range 3 {
		for s, want := range lines() {
			fails(t, s+"\t", 500)
			parses(t, s, want)
			Right(Command{Kind: Rcpt})
		}
	}
}
