package addr

import (
	"strconv"
	"strings"
	"testing"
)

// domainOf is a domain of n bytes, 2 at least, whose labels are short.
func domainOf(n int) string { return strings.Repeat("d.", n)[:n-1] + "d" }

func isDomain(t *testing.T, s string, want bool) {
	t.Helper()
	if got := Domain(s); got != want {
		t.Errorf("P1401: Domain(%q): %v; want %v", s, got, want)
	}
}

func TestDomain(t *testing.T) {
	for _, s := range []string{"a", "Z", "0", "9", "a.b", "mail.example.org", "MAIL.Example", "a-b.c--d", "1.2.3.4", "256.1", "0.01.002", "xn--a", "a.b.c.d.e.f.g.h", "a-1"} {
		isDomain(t, s, true)
	}
	for _, s := range []string{"", ".", "..", "-", "a b", "a_b", " a", "a ", "a,b", "a@b", "<a>", "a.b ", "\x00", "é", "a\r\n", "a[1.2.3.4]", "[1.2.3.4].a", "a]", "[a]", "[a.b.c.d]"} {
		isDomain(t, s, false)
	}
}

func TestDomainLength(t *testing.T) {
	for n, want := range map[int]bool{2: true, 254: true, 255: true, 256: false, 257: false, 1000: false} {
		isDomain(t, domainOf(n), want)
	}
	label := strings.Repeat("x", 63)
	whole := strings.Join([]string{label, label, label, label}, ".")
	if len(whole) != 255 {
		t.Fatalf("%d bytes", len(whole))
	}
	isDomain(t, whole, true)
	isDomain(t, whole[1:], true)
	isDomain(t, whole+".", false)
	isDomain(t, whole[1:]+".", false)
	isDomain(t, "a."+whole, false)
	isDomain(t, strings.Repeat("a", 255), false)
	isDomain(t, strings.Repeat(".", 255), false)
}

// TestLabels: each label that may be, and each that may not, alone, first, between and last.
func TestLabels(t *testing.T) {
	labels := map[string]bool{
		"a": true, "7": true, "a-b": true, "a--b": true, "0-0": true,
		strings.Repeat("x", 62): true, strings.Repeat("x", 63): true,
		"x" + strings.Repeat("-", 61) + "x": true,
		strings.Repeat("x", 64):             false, strings.Repeat("x", 100): false,
		"x" + strings.Repeat("-", 62) + "x": false,
		"":                                  false, "-": false, "--": false, "-a": false, "a-": false, "-a-": false,
		"-" + strings.Repeat("x", 62): false, strings.Repeat("x", 62) + "-": false,
		"[1": false, "4]": false, "a[": false, "]a": false,
	}
	for label, want := range labels {
		for _, s := range []string{label, label + ".b", "b." + label, "b." + label + ".c", "a.b." + label + ".c.d", "b-c." + label} {
			isDomain(t, s, want)
		}
	}
}

// letters are the bytes that may stand first and last in a label.
const letters = "abcdefghijklmnopqrstuvwxyzABCDEFGHIJKLMNOPQRSTUVWXYZ0123456789"

// TestDomainBytes: each byte at each kind of place.
func TestDomainBytes(t *testing.T) {
	for i := range 256 {
		c := string([]byte{byte(i)})
		end := strings.Contains(letters, c)
		inner := end || c == "-"
		for s, want := range map[string]bool{
			"?": end, "?b": end, "b?": end, "b?c": inner || c == ".",
			"?.a": end, "a.?": end, "a.?.b": end, "?b.a": end, "b?.a": end, "a.b?c.d": inner || c == ".",
			"a?": end, "a.b?": end, "?a.b": end, "a.b-?": end, "?-b": end,
		} {
			isDomain(t, strings.ReplaceAll(s, "?", c), want)
		}
	}
}

// TestNumbers: each of the four numbers in `[` `]`, as it may be written and as it may not.
func TestNumbers(t *testing.T) {
	isNumber := func(number string, want bool) {
		t.Helper()
		for _, s := range []string{"[?.1.2.3]", "[1.?.2.3]", "[1.2.?.3]", "[1.2.3.?]", "[?.?.?.?]"} {
			isDomain(t, strings.ReplaceAll(s, "?", number), want)
		}
	}
	for n := range 1200 {
		isNumber(strconv.Itoa(n), n <= 255)
		isNumber("0"+strconv.Itoa(n), false)
		isNumber("00"+strconv.Itoa(n), false)
	}
	for _, number := range []string{"", "-1", "+1", "-0", "+0", " 1", "1 ", "0x1", "1a", "a", "1_0", "1e1", "-", "+", "2147483648", "4294967296", "4294967297", "18446744073709551616", "18446744073709551617", strings.Repeat("1", 200), strings.Repeat("0", 200), "١"} {
		isNumber(number, false)
	}
}

func TestNumberBytes(t *testing.T) {
	for i := range 256 {
		c := string([]byte{byte(i)})
		digit := i >= '0' && i <= '9'
		for s, want := range map[string]bool{
			"[?.2.3.4]": digit, "[1.2.3.?]": digit, "[1.?2.3.4]": digit && c != "0", "[1.2?.3.4]": digit,
			"?1.2.3.4]": c == "[", "[1.2.3.4?": c == "]", "[1?2.3.4]": c == ".", "[1.2.3?4]": c == ".",
			"?[1.2.3.4]": false, "[1.2.3.4]?": false, "[?1.2.3.4]": digit && c != "0", "[1.2.3.4?]": digit,
		} {
			isDomain(t, strings.ReplaceAll(s, "?", c), want)
		}
	}
}

func TestNumbersForm(t *testing.T) {
	for _, s := range []string{"[0.0.0.0]", "[255.255.255.255]", "[127.0.0.1]", "[10.99.100.249]"} {
		isDomain(t, s, true)
	}
	for _, s := range []string{
		"[", "]", "[]", "[.]", "[...]", "[1]", "[1.2]", "[1.2.3]", "[1.2.3.4.5]", "[1.2.3.4.5.6]", "[1.2.3.4", "1.2.3.4]",
		"[1.2.3.]", "[.1.2.3]", "[1..2.3]", "[1.2.3.4.]", "[.1.2.3.4]", "[1.2..3.4]", "[1.2.3.4]]", "[[1.2.3.4]", "[[1.2.3.4]]",
		"[1.2.3.4].", ".[1.2.3.4]", "[1.2.3.4]a", "[1.2.3.4]:1", "[1.2.3.4][1.2.3.4]", "[1,2,3,4]", "[1.2.3.4 ]", "[ 1.2.3.4]", "[IPv6:1]", "[1-2.3.4.5]", "(1.2.3.4)",
	} {
		isDomain(t, s, false)
	}
}
