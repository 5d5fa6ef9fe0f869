package addr

import (
	"strings"
	"testing"

	"mailbag/api"
)

// isTooLong asks for ErrLong of a mailbox, whatever stands ahead of it or behind the path; ErrForm, where there is no path.
func isTooLong(t *testing.T, mailbox string) {
	t.Helper()
	for _, s := range []string{"<" + mailbox + ">", "<@x:" + mailbox + ">", "<@x,@" + strings.Repeat("y", 300) + ":" + mailbox + ">", "<" + mailbox + "> SIZE=1", "<" + mailbox + "><a@b>"} {
		fails(t, s, api.ErrLong)
	}
	for _, s := range []string{
		mailbox, "<" + mailbox, mailbox + ">", "<" + mailbox + " >", "< " + mailbox + ">", "<" + mailbox + "@b>", "<" + mailbox + "->", "<" + mailbox + ".>", "<" + mailbox + "..c>", "<" + mailbox + "]>", "<" + mailbox + ":a@b>",
		"<x\"" + mailbox + ">", "<." + mailbox + ">", "<@:" + mailbox + ">", "<@x" + mailbox + ">", "<@-x:" + mailbox + ">", "<@x," + mailbox + ">", "<\x80" + mailbox + ">", "<" + mailbox + "\x80>",
	} {
		fails(t, s, api.ErrForm)
	}
}

func TestLongLocal(t *testing.T) {
	for n := 60; n <= 70; n++ {
		plain, dots, slashes := strings.Repeat("x", n), strings.Repeat("a.", n)[:n-1]+"a", strings.Repeat(`\`, n)
		for said, local := range map[string]string{
			plain: plain, dots: dots,
			`"` + plain + `"`:                   plain,
			`"` + strings.Repeat(".", n) + `"`:  strings.Repeat(".", n),
			`"` + strings.Repeat(`\x`, n) + `"`: plain, `"` + strings.Repeat(`\x`, n-1) + `x"`: plain,
			`"` + strings.Repeat(`\\`, n) + `"`: slashes,
		} {
			for _, domain := range []string{"b", "b.c", "[1.2.3.4]", domainOf(100)} {
				if n <= 64 {
					reads(t, "<"+said+"@"+domain+">", mailbox(local, domain))
				} else {
					isTooLong(t, said+"@"+domain)
				}
			}
		}
	}
	isTooLong(t, strings.Repeat("x", 100000)+"@b")
	isTooLong(t, `"`+strings.Repeat(`\"`, 100000)+`"@b`)
	isTooLong(t, strings.Repeat("x.", 100000)+"x@b")
	fails(t, "<"+strings.Repeat("x", 65)+".@b>", api.ErrForm)
	fails(t, "<"+strings.Repeat("x", 65)+"..x@b>", api.ErrForm)
	fails(t, `<"`+strings.Repeat("x", 65)+"@b>", api.ErrForm)
	fails(t, `<"`+strings.Repeat("x", 65)+"\x1f\"@b>", api.ErrForm)
	fails(t, `<"`+strings.Repeat("x", 65)+`\"@b>`, api.ErrForm)
	fails(t, "<"+strings.Repeat("x", 65)+">", api.ErrForm)
	fails(t, "<"+strings.Repeat("x", 65)+"@>", api.ErrForm)
	fails(t, "<"+strings.Repeat("x", 65)+"@-b>", api.ErrForm)
}

func TestLongDomain(t *testing.T) {
	for n := 60; n <= 70; n++ {
		label := strings.Repeat("x", n)
		for _, domain := range []string{label, label + ".b", "b." + label, "b." + label + ".c", "a." + label + "." + label, strings.Repeat("1", n), "x" + strings.Repeat("-", n-2) + "x"} {
			if n <= 63 {
				reads(t, "<a@"+domain+">", mailbox("a", domain))
				reads(t, `<"a b"@`+domain+">", mailbox("a b", domain))
			} else {
				isTooLong(t, "a@"+domain)
				isTooLong(t, `"a b"@`+domain)
			}
		}
		fails(t, "<a@"+label+"-.c>", api.ErrForm)
		fails(t, "<a@-"+label+">", api.ErrForm)
		fails(t, "<a@["+label+"]>", api.ErrForm)
	}
	for _, n := range []int{253, 254, 255, 256, 257, 100000} { // Print is too long of these
		isTooLong(t, "a@"+domainOf(n))
	}
	isTooLong(t, "a@"+strings.Repeat("b", 100000))
	fails(t, "<a@[1.2.3."+strings.Repeat("1", 300)+"]>", api.ErrForm)
	fails(t, "<a@["+strings.Repeat("1.", 300)+"1]>", api.ErrForm)
	fails(t, "<a@"+domainOf(300)+".>", api.ErrForm)
	fails(t, "<a@"+domainOf(300)+"..b>", api.ErrForm)
}

// TestLongPrint: it is Print that counts, not how the address is written.
func TestLongPrint(t *testing.T) {
	for said, c := range map[string]struct {
		local string
		print int
	}{
		"a": {"a", 1}, "a.b": {"a.b", 3}, strings.Repeat("x", 64): {strings.Repeat("x", 64), 64},
		`"a"`: {"a", 1}, `"\a"`: {"a", 1}, `"a.b"`: {"a.b", 3}, `"` + strings.Repeat(`\x`, 64) + `"`: {strings.Repeat("x", 64), 64},
		`" "`: {" ", 3}, `"\ "`: {" ", 3}, `"a."`: {"a.", 4}, `"\a\."`: {"a.", 4}, `"\""`: {`"`, 4}, `"\\\\"`: {`\\`, 6},
		`"` + strings.Repeat(`\"`, 64) + `"`: {strings.Repeat(`"`, 64), 130}, `"` + strings.Repeat(`\x`, 63) + `\\"`: {strings.Repeat("x", 63) + `\`, 67},
	} {
		most := api.MaxAddr - len("<@>") - c.print
		for n := most - 2; n <= most; n++ {
			reads(t, "<"+said+"@"+domainOf(n)+">", mailbox(c.local, domainOf(n)))
			reads(t, "<@"+domainOf(300)+":"+said+"@"+domainOf(n)+">", mailbox(c.local, domainOf(n)))
		}
		for n := most + 1; n <= most+3; n++ {
			isTooLong(t, said+"@"+domainOf(n))
		}
	}
}
