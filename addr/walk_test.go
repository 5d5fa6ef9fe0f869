package addr

import (
	"hash/crc32"
	"math/rand/v2"
	"regexp"
	"strings"
	"testing"

	"mailbag/api"
)

// The document's words as patterns.
const (
	labelWords  = `[A-Za-z0-9](?:[A-Za-z0-9-]*[A-Za-z0-9])?`
	numberWords = `(?:0|[1-9][0-9]?|1[0-9][0-9]|2[0-4][0-9]|25[0-5])`
	domainWords = `(?:` + labelWords + `(?:\.` + labelWords + `)*|\[` + numberWords + `(?:\.` + numberWords + `){3}\])`
	wordWords   = "[A-Za-z0-9!#$%&'*+/=?^_\x60{|}~-]+"
	wordsWords  = wordWords + `(?:\.` + wordWords + `)*`
	quotesWords = `"((?:[ !#-\[\]-~]|\\[ -~])+)"`
	pathWords   = `^<(?:(?:@` + domainWords + `(?:,@` + domainWords + `)*:)?(?:(` + wordsWords + `)|` + quotesWords + `)@(` + domainWords + `))?>`
)

var (
	plainDomains = regexp.MustCompile(`^` + domainWords + `$`)
	plainLocals  = regexp.MustCompile(`^[ -~]{1,64}$`)
	plainWords   = regexp.MustCompile(`^` + wordsWords + `$`)
	plainPaths   = regexp.MustCompile(pathWords)
	slashes      = regexp.MustCompile(`\\(.)`)
	longLabel    = regexp.MustCompile(`[^.]{64}`)
	capitals     = regexp.MustCompile(`[A-Z]+`)
)

func plainDomain(s string) bool {
	return len(s) >= 1 && len(s) <= 255 && plainDomains.MatchString(s) && !longLabel.MatchString(s)
}

func plainPrint(a api.Address) string {
	if a.Local == "" && a.Domain == "" {
		return "<>"
	}
	if plainWords.MatchString(a.Local) {
		return "<" + a.Local + "@" + a.Domain + ">"
	}
	return `<"` + strings.NewReplacer(`"`, `\"`, `\`, `\\`).Replace(a.Local) + `"@` + a.Domain + ">"
}

func plainRight(a api.Address) bool {
	print := plainPrint(a)
	return print == "<>" || plainLocals.MatchString(a.Local) && plainDomain(a.Domain) && len(print) <= 256
}

func plainPath(s string) (api.Address, string, api.Errno) {
	found := plainPaths.FindStringSubmatch(s)
	if found == nil {
		return api.Address{}, "", api.ErrForm
	}
	a := mailbox(found[1]+slashes.ReplaceAllString(found[2], "$1"), found[3])
	if !plainRight(a) {
		return api.Address{}, "", api.ErrLong
	}
	return a, s[len(found[0]):], api.OK
}

// asPlain holds Path and Parse of a text against the plain reader, and what they take against Print; it answers the error.
func asPlain(t *testing.T, s string) api.Errno {
	t.Helper()
	wanted, left, want := plainPath(s)
	a, rest, e := Path(s)
	if a != wanted || rest != left || e != want {
		t.Errorf("P1403: Path(%q): %q, %q, %v; want %q, %q, %v", s, a, rest, e, wanted, left, want)
	}
	if want == api.OK && left != "" {
		wanted, want = api.Address{}, api.ErrForm
	}
	if b, e := Parse(s); b != wanted || e != want {
		t.Errorf("P1403: Parse(%q): %q, %v; want %q, %v", s, b, e, wanted, want)
	}
	if e == api.OK {
		addressAsPlain(t, a)
	}
	return e
}

// addressAsPlain holds an address against the plain reader, and Parse of its Print against it.
func addressAsPlain(t *testing.T, a api.Address) {
	t.Helper()
	right, print := plainRight(a), ""
	if right {
		print = plainPrint(a)
	}
	if Right(a) != right || Print(a) != print || Local(a.Local) != plainLocals.MatchString(a.Local) || Domain(a.Domain) != plainDomain(a.Domain) {
		t.Errorf("P1401, P1402: of %q: %v, %q, %v, %v; want %v, %q", a, Right(a), Print(a), Local(a.Local), Domain(a.Domain), right, print)
	}
	if Hash(a) != crc32.ChecksumIEEE([]byte(a.Local+"\x00"+plainLower(a.Domain))) {
		t.Errorf("P1403: Hash(%q): %X", a, Hash(a))
	}
	if !right {
		return
	}
	if b, e := Parse(print); b != a || e != api.OK {
		t.Errorf("P1404: Parse(%q): %q, %v; want %q", print, b, e, a)
	}
}

func plainLower(s string) string {
	return capitals.ReplaceAllStringFunc(s, strings.ToLower)
}

// each calls for all texts of up to most of these bytes.
func each(bytes string, most int, front string, call func(s string)) {
	call(front)
	if most == 0 {
		return
	}
	for i := range len(bytes) {
		each(bytes, most-1, front+bytes[i:i+1], call)
	}
}

// TestShortDomains holds all short texts of the bytes that matter against the plain reader.
func TestShortDomains(t *testing.T) {
	each("a-.[]9_", 6, "", func(s string) { isDomain(t, s, plainDomain(s)) })
	each("0125.", 5, "[0.", func(s string) { isDomain(t, s+"]", plainDomain(s+"]")) })
	each("0259", 4, "", func(s string) { isDomain(t, "[1.2."+s+".4]", plainDomain("[1.2."+s+".4]")) })
}

func TestShortPaths(t *testing.T) {
	each("<>@.\"\\a,:-", 4, "", func(s string) { asPlain(t, s) })
	each(">@.\"\\a,:- ", 5, "<", func(s string) { asPlain(t, s) })
	each("@.\"\\a\x7f", 5, "<a", func(s string) { asPlain(t, s+"@b>c") })
	each("@a,:.", 6, "<@", func(s string) { asPlain(t, s+":a@b>") })
	each("\\\"a>@", 6, "<\"", func(s string) { asPlain(t, s+"\"@b>") })
	each("[]1.-a", 4, "<a@", func(s string) { asPlain(t, s+">") })
}

func TestShortLocals(t *testing.T) {
	each("a.\"\\ \x1f@", 5, "", func(s string) { addressAsPlain(t, mailbox(s, "b")) })
}

// paths are texts that are paths, of each kind.
func paths() []string {
	return []string{
		"<>", "<a@b>", "<a.b+c@D.e-f.9> size", "<@x,@y.z:a@b>", "<@[1.2.3.4]:a@b><>", `<"a"@b>`, `<"a b\"\\"@[10.20.255.4]>`, `<@x-y.z,@[0.0.0.0],@w:"\a@\>"@c>x`, "<{}|~`!@c><", `<"..">`, `<".."@c.d>`,
		"<" + strings.Repeat("x", 64) + "@b>", "<a@" + strings.Repeat("x", 63) + ".y>", "<" + strings.Repeat("x", 64) + "@" + domainOf(189) + ">", `<"` + strings.Repeat(`\"`, 64) + `"@` + domainOf(123) + ">",
	}
}

// TestPathsButForOneByte: of paths each byte becomes each other, each goes, each comes ahead of each.
func TestPathsButForOneByte(t *testing.T) {
	seen := map[api.Errno]int{}
	for _, s := range paths() {
		seen[asPlain(t, s)]++
		for i := range len(s) {
			seen[asPlain(t, s[:i]+s[i+1:])]++
			seen[asPlain(t, s[:i])]++
			for c := range 256 {
				b := string([]byte{byte(c)})
				if len(s) > 100 && !strings.Contains("<>@.\"\\,:-[] a1\x1f\xff", b) {
					continue // of a long path each kind of byte is enough
				}
				seen[asPlain(t, s[:i]+b+s[i+1:])]++
				seen[asPlain(t, s[:i]+b+s[i:])]++
			}
		}
	}
	if seen[api.OK] < 100 || seen[api.ErrForm] < 100 || seen[api.ErrLong] < 100 {
		t.Errorf("too few of one kind: %v", seen)
	}
}

// drawer draws texts; the same each time.
type drawer struct{ *rand.Rand }

func newDrawer(seed uint64) drawer { return drawer{rand.New(rand.NewPCG(seed, 14))} }

func (d drawer) of(bytes string, least, most int) string {
	b := make([]byte, least+d.IntN(most-least+1))
	for i := range b {
		b[i] = bytes[d.IntN(len(bytes))]
	}
	return string(b)
}

// size is short most times, and near the bound at others.
func (d drawer) size(bound int) int {
	if d.IntN(4) > 0 {
		return 1 + d.IntN(min(8, bound))
	}
	return max(1, bound-3+d.IntN(6))
}

func (d drawer) label() string {
	n := d.size(mostLabel)
	if n < 3 {
		return d.of(letters, n, n)
	}
	return d.of(letters, 1, 1) + d.of(letters+"----", n-2, n-2) + d.of(letters, 1, 1)
}

func (d drawer) number() string {
	return []string{"0", "255", "256", "7", "42", "199", "300", "01"}[min(d.IntN(40), 7)*d.IntN(2)]
}

func (d drawer) domain() string {
	if d.IntN(5) == 0 {
		return "[" + d.number() + "." + d.number() + "." + d.number() + "." + d.number() + "]"
	}
	parts := make([]string, 1+d.IntN(6))
	for i := range parts {
		parts[i] = d.label()
	}
	return strings.Join(parts, ".")
}

func printable() string {
	var b []byte
	for c := byte(0x20); c <= 0x7E; c++ {
		b = append(b, c)
	}
	return string(b)
}

func (d drawer) local() string {
	n := d.size(mostLocal)
	switch d.IntN(3) {
	case 0:
		return d.of(wordBytes, n, n)
	case 1:
		return d.of("ab.", n, n)
	}
	return d.of(printable()+`"""\\\`, n, n)
}

// said is a Local as it may be written in a path, and not always may.
func (d drawer) said() string {
	local := d.local()
	if d.IntN(3) == 0 {
		return local
	}
	var b []byte
	for i := range len(local) {
		if c := local[i]; c == '"' || c == '\\' || d.IntN(3) == 0 {
			b = append(b, '\\')
		}
		b = append(b, local[i])
	}
	return `"` + string(b) + `"`
}

func (d drawer) path() string {
	var route []string
	for range d.IntN(4) * d.IntN(2) {
		route = append(route, "@"+d.domain())
	}
	s := "<"
	if len(route) > 0 {
		s += strings.Join(route, ",") + ":"
	}
	return s + d.said() + "@" + d.domain() + ">" + d.of("> <a@", 0, 2*d.IntN(2))
}

// TestDrawnAddresses: P1404, and each question about an address, of such as are drawn.
func TestDrawnAddresses(t *testing.T) {
	d, right := newDrawer(1), 0
	for range 20000 {
		a := mailbox(d.local(), d.domain())
		addressAsPlain(t, a)
		if plainRight(a) {
			right++
		}
	}
	if right < 5000 || right > 19500 {
		t.Errorf("%d addresses are Right", right)
	}
}

func TestDrawnPaths(t *testing.T) {
	d, seen := newDrawer(2), map[api.Errno]int{}
	for range 20000 {
		s := d.path()
		seen[asPlain(t, s)]++
		i := d.IntN(len(s))
		b := string([]byte{byte(d.IntN(256))})
		if d.IntN(2) == 0 {
			b = d.of("<>@.\"\\,:-[]01a ", 1, 1)
		}
		seen[asPlain(t, s[:i]+b+s[i+1:])]++
		seen[asPlain(t, s[:i]+b+s[i:])]++
		seen[asPlain(t, s[:i]+s[i+1:])]++
	}
	if seen[api.OK] < 5000 || seen[api.ErrForm] < 5000 || seen[api.ErrLong] < 2000 {
		t.Errorf("too few of one kind: %v", seen)
	}
}

func TestDrawnBytes(t *testing.T) {
	d := newDrawer(3)
	for range 50000 {
		asPlain(t, "<"+d.of("a.@>\"\\", 0, 12))
		asPlain(t, "<@"+d.of("ab.-[]1,:@>", 0, 16))
		addressAsPlain(t, mailbox(d.of("a.\"\\ \x1f", 0, 5), d.of("ab.-[]12", 0, 12)))
	}
}
