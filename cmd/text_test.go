package cmd

import (
	"strings"
	"testing"
)

// texts are such as may stand behind the blank of noop and vrfy, and mean nothing else.
func texts() []string {
	return []string{"x", "x y", " x", "  x", "   x  y", "-", "~", "!", "\"", "\\", "<a@b>", "<>", "from:<a@b>", "NOOP", "noop x", "vrfy", "a_b", "size=9", "=", ".", "..", "%20", strings.Repeat("x", 64), strings.Repeat("x ", 600) + "y", strings.Repeat(" ", 600) + "y"}
}

func TestNoop(t *testing.T) {
	parses(t, "noop", Command{Kind: Noop})
	parses(t, "NoOp", Command{Kind: Noop})
	for _, text := range texts() {
		parses(t, "noop "+text, Command{Kind: Noop, Arg: text})
		parses(t, "NOOP "+text, Command{Kind: Noop, Arg: text})
	}
}

func TestVrfy(t *testing.T) {
	fails(t, "vrfy", 501)
	fails(t, "VRFY", 501)
	for _, text := range texts() {
		parses(t, "vrfy "+text, Command{Kind: Vrfy, Arg: text})
		parses(t, "VrFy "+text, Command{Kind: Vrfy, Arg: text})
	}
}

// TestTextBytes: each byte as the text, first in it, within, and last.
func TestTextBytes(t *testing.T) {
	for i := range 256 {
		for _, place := range []string{"?", "?b", "a?b", "a?", " ?", " ?b", "? a ?"} {
			text := strings.ReplaceAll(place, "?", string([]byte{byte(i)}))
			bare := strings.TrimRight(text, " ")
			if i < 0x20 || i > 0x7E {
				fails(t, "noop "+text, 500)
				fails(t, "vrfy "+text, 500)
				continue
			}
			parses(t, "noop "+text, Command{Kind: Noop, Arg: bare})
			if bare == "" {
				fails(t, "vrfy "+text, 501)
			} else {
				parses(t, "vrfy "+text, Command{Kind: Vrfy, Arg: bare})
			}
		}
	}
}

// alone asks data, rset and quit with that behind.
func alone(t *testing.T, behind string, want int) {
	t.Helper()
	for word, kind := range map[string]int{"data": Data, "DATA": Data, "rset": Rset, "RsEt": Rset, "quit": Quit, "QUIT": Quit} {
		if want == 0 {
			parses(t, word+behind, Command{Kind: kind})
		} else {
			fails(t, word+behind, want)
		}
	}
}

func TestAlone(t *testing.T) {
	alone(t, "", 0)
	for _, text := range texts() {
		alone(t, " "+text, 501)
		alone(t, "  "+text, 501)
	}
	for i := range 256 {
		b := string([]byte{byte(i)})
		switch {
		case i < 0x20 || i > 0x7E:
			alone(t, " "+b, 500)
			alone(t, b, 500)
		case b == " ":
			alone(t, " "+b, 0)
			alone(t, b, 0)
		default:
			alone(t, " "+b, 501)
			alone(t, b, 500) // another word
		}
	}
}
