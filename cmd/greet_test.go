package cmd

import (
	"strings"
	"testing"

	"mailbag/addr"
	"mailbag/api"
)

func mailbox(local, domain string) api.Address { return api.Address{Local: local, Domain: domain} }

// greets asks helo and ehlo for that Domain.
func greets(t *testing.T, domain string) {
	t.Helper()
	for word, kind := range map[string]int{"helo": Helo, "HELO": Helo, "ehlo": Ehlo, "EhLo": Ehlo} {
		parses(t, word+" "+domain, Command{Kind: kind, Arg: domain})
	}
}

func greetsNobody(t *testing.T, behind string) {
	t.Helper()
	for _, word := range []string{"helo", "HELO", "ehlo", "EhLo"} {
		fails(t, word+behind, 501)
	}
}

// domainOf is a Domain of n bytes, 2 to 255, whose labels are short.
func domainOf(n int) string { return strings.Repeat("d.", n)[:n-1] + "d" }

func TestGreet(t *testing.T) {
	for _, domain := range []string{"a", "A.b", "mail.Example.ORG", "a-b.c--d", "9", "1.2.3.4", "[1.2.3.4]", "[0.0.0.0]", "[255.255.255.255]", strings.Repeat("x", 63), domainOf(254), domainOf(255)} {
		greets(t, domain)
	}
}

func TestGreetNobody(t *testing.T) {
	greetsNobody(t, "")
	for _, domain := range []string{"_", "a_b", "-", "-a", "a-", ".", "a.", ".a", "a..b", "[1.2.3]", "[1.2.3.256]", "[1.2.3.04]", "[1.2.3.4", "1.2.3.4]", "[]", "[a]", "[1.2.3.4].a", "<a>", "a@b", "a,b", "\"a\"", strings.Repeat("x", 64), domainOf(255) + "d", domainOf(257), strings.Repeat("x", 100000)} {
		greetsNobody(t, " "+domain)
	}
}

// TestGreetBlanks: there is one blank, and no other ahead of the Domain's end, nor something behind it.
func TestGreetBlanks(t *testing.T) {
	for _, domain := range []string{"a", "a.b", "[1.2.3.4]"} {
		for _, behind := range []string{"  " + domain, "   " + domain, " " + domain + " b", " " + domain + "  b", " " + domain + " " + domain, " " + domain + " [1.2.3.4]", " " + domain + " -", " " + domain + " size=1"} {
			greetsNobody(t, behind)
		}
	}
}

// TestGreetBytes: each byte as the Domain, first in it, within, last, and behind it.
func TestGreetBytes(t *testing.T) {
	for i := range 256 {
		for _, place := range []string{"?", "?b", "a?b", "a?", "a.b?c", "?[1.2.3.4]", "[1.2.3.4]?", "[1.2?.3.4]", "a ?"} {
			domain := strings.ReplaceAll(place, "?", string([]byte{byte(i)}))
			bare := strings.TrimRight(domain, " ") // blanks at the text's end do not count
			switch {
			case i < 0x20 || i > 0x7E:
				fails(t, "helo "+domain, 500)
				fails(t, "ehlo "+domain, 500)
			case addr.Domain(bare):
				greets(t, bare)
			default:
				greetsNobody(t, " "+domain)
			}
		}
	}
}
