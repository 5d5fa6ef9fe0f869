package cmd

import (
	"strings"
	"testing"
)

func TestRcpt(t *testing.T) {
	for _, front := range []string{"rcpt to:", "RCPT TO:", "rcpt to: ", "Rcpt To:   ", "rcpt TO:" + strings.Repeat(" ", 600)} {
		for path, to := range paths() {
			parses(t, front+path, Command{Kind: Rcpt, Path: to})
		}
	}
	cases("to:", func(s string) { parses(t, "rcpt "+s+"<a@b>", Command{Kind: Rcpt, Path: mailbox("a", "b")}) })
}

// TestTo: what stands ahead of the path.
func TestTo(t *testing.T) {
	for _, path := range []string{"<a@b>", "<a@b> size=1", "<a@b> x", "<a@b>x"} {
		for _, front := range []string{" ", "  to:", "   to:", " to", " to ", " to :", " to: x", " t o:", " o:", " t:", " too:", " tto:", " to::", " to;", " from:", " to:to:", " x to:", " rcpt to:", " <to:", " -to:", " to:-", " to:,", " to:<>", " to:<> "} {
			fails(t, "rcpt"+front+path, 501)
		}
		fails(t, "rcpt"+path, 500)
		fails(t, "rcptto:"+path, 500)
	}
	for _, s := range []string{"rcpt", "rcpt to", "rcpt t", "rcpt to:", "rcpt to: ", "rcpt to:x", "rcpt :", "rcpt x"} {
		fails(t, s, 501)
	}
}

// TestToBytes: each byte for each of the word's, and ahead of each, and between it and the path.
func TestToBytes(t *testing.T) {
	to := Command{Kind: Rcpt, Path: mailbox("a", "b")}
	for i := range len("to:") {
		for n := 0x20; n <= 0x7E; n++ {
			b := string([]byte{byte(n)})
			if s := "to:"[:i] + b + "to:"[i+1:]; isWord(s, "to:") {
				parses(t, "rcpt "+s+"<a@b>", to)
			} else {
				fails(t, "rcpt "+s+"<a@b>", 501)
			}
			fails(t, "rcpt "+"to:"[:i]+b+"to:"[i:]+"<a@b>", 501)
			if b != " " {
				fails(t, "rcpt to:"+b+"<a@b>", 501)
				fails(t, "rcpt to: "+b+"<a@b>", 501)
			}
		}
		fails(t, "rcpt "+"to:"[:i]+"to:"[i+1:]+"<a@b>", 501)
	}
}

// TestRcptNoPath: whatever stands behind what is no path, one that is too long, or the null one.
func TestRcptNoPath(t *testing.T) {
	none := append(noPaths(), longPaths()...)
	for _, path := range append(none, "<>") {
		for _, blanks := range []string{"", " ", "  "} {
			for _, behind := range []string{"", "x", " x", "  x", " size=1", " size=", "size=1", " <a@b>", "<a@b>"} {
				if path == "" && strings.HasSuffix(behind, "<a@b>") {
					continue // that is a path
				}
				fails(t, "rcpt to:"+blanks+path+behind, 501)
			}
		}
	}
}

func TestRcptBehind(t *testing.T) {
	for path := range paths() {
		for _, behind := range []string{"x", ">", "<", "<>", path, "size=1", "=", "x size=1", ",", "-", "\"", "x "} {
			fails(t, "rcpt to:"+path+behind, 501)
		}
		for _, behind := range []string{" x", "  x", " <>", " " + path, " size=1", " SIZE=1", " size=", " size=1 x", "  size=1", " notify=never", " x>", " -"} {
			fails(t, "rcpt to:"+path+behind, 555)
			fails(t, "RCPT TO: "+path+behind, 555)
		}
	}
	for n := 0x21; n <= 0x7E; n++ {
		b := string([]byte{byte(n)})
		fails(t, "rcpt to:<a@b>"+b, 501)
		fails(t, "rcpt to:<a@b>"+b+" x", 501)
		fails(t, "rcpt to:<a@b> "+b, 555)
		fails(t, "rcpt to:<a@b>  "+b, 555)
		fails(t, "rcpt to:<>"+b, 501)
		fails(t, "rcpt to:<> "+b, 501)
	}
}
