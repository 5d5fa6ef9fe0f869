package path

import (
	"math/rand/v2"
	"regexp"
	"slices"
	"strings"
	"testing"

	"mailbag/api"
)

// texts are all texts of up to n bytes of a few.
func texts(n int) []string {
	all := []string{""}
	for at := 0; at < len(all); at++ {
		if len(all[at]) == n {
			break
		}
		for _, c := range "/ab. " {
			all = append(all, all[at]+string(c))
		}
	}
	return all
}

var oneName = regexp.MustCompile(`^[!-.0-~]{1,48}$`)

func plainName(s string) bool {
	return oneName.MatchString(s) && !strings.HasSuffix(s, "\n") && s != "." && s != ".."
}

// plainSplit cuts by the library.
func plainSplit(s string) ([]string, api.Errno) {
	if len(s) > 256 {
		return nil, api.ErrLong
	}
	if s == "/" {
		return nil, api.OK
	}
	l := strings.Split(s, "/")
	if l[0] != "" || len(l) == 1 {
		return nil, api.ErrName
	}
	for _, name := range l[1:] {
		if !plainName(name) {
			return nil, api.ErrName
		}
	}
	if len(l) > 9 {
		return nil, api.ErrLong
	}
	return l[1:], api.OK
}

func plainJoin(parts []string) (string, api.Errno) {
	s := ""
	for _, name := range parts {
		if !plainName(name) {
			return "", api.ErrName
		}
		s += "/" + name
	}
	if len(parts) > 8 || len(s) > 256 {
		return "", api.ErrLong
	}
	return max(s, "/"), api.OK
}

// plainUnder holds texts, each with a slash at its end.
func plainUnder(a, b string) bool {
	_, e := plainSplit(a)
	_, f := plainSplit(b)
	return e == api.OK && f == api.OK && strings.HasPrefix(strings.TrimSuffix(b, "/")+"/", strings.TrimSuffix(a, "/")+"/")
}

// same holds all calls of a text against the plain ones.
func same(t *testing.T, s string) {
	t.Helper()
	want, e := plainSplit(s)
	if e != api.OK {
		refused(t, s, e)
		orphan(t, s, e)
		return
	}
	splits(t, s, want...)
	joins(t, s, want...)
	if len(want) == 0 {
		orphan(t, s, api.ErrName)
		return
	}
	at := strings.LastIndex(s, "/")
	parented(t, s, max(s[:at], "/"), s[at+1:])
}

func TestAllShortTexts(t *testing.T) {
	for _, s := range texts(7) {
		same(t, s)
	}
}

func TestUnderOfAllShortTexts(t *testing.T) {
	all := texts(4)
	for _, a := range all {
		for _, b := range all {
			under(t, a, b, plainUnder(a, b))
		}
	}
}

// drawn is a name, most often, of any size.
func drawn(r *rand.Rand) string {
	sizes := []int{1, 1, 2, 3, 8, 25, 30, 31, 32, 33, 46, 47, 48}
	name := []byte(x(sizes[r.IntN(len(sizes))]))
	for i := range name {
		name[i] = byte(0x21 + r.IntN(0x7E-0x21+1))
		if name[i] == '/' {
			name[i] = '.'
		}
	}
	switch r.IntN(60) {
	case 0:
		return ""
	case 1:
		return "."
	case 2:
		return ".."
	case 3:
		return x(49)
	case 4:
		name[r.IntN(len(name))] = byte(r.IntN(256))
	}
	return string(name)
}

func TestWalk(t *testing.T) {
	r := rand.New(rand.NewPCG(10, 1001))
	seen := map[api.Errno]int{}
	for range 20000 {
		parts := make([]string, r.IntN(11))
		for i := range parts {
			parts[i] = drawn(r)
		}
		want, e := plainJoin(parts)
		seen[e]++
		if e != api.OK {
			unjoined(t, e, parts...)
		} else {
			joins(t, want, parts...)
		}
		s := "/" + strings.Join(parts, "/")
		same(t, s)
		cut := s[:r.IntN(len(s)+1)]
		same(t, cut)
		same(t, s[r.IntN(len(s)):])
		under(t, cut, s, plainUnder(cut, s))
		under(t, s, cut, plainUnder(s, cut))
	}
	for _, e := range []api.Errno{api.OK, api.ErrName, api.ErrLong} {
		if seen[e] < 1000 {
			t.Errorf("the walk has %d joins of %v alone", seen[e], e)
		}
	}
}

// TestSameAgain: P3.
func TestSameAgain(t *testing.T) {
	for _, s := range append(rightPaths(), wrongPaths()...) {
		first, e := Split(s)
		for _, other := range rightPaths() {
			Split(other)
			Join(first...)
			Parent(other)
			Under(s, other)
		}
		if again, f := Split(s); e != f || !slices.Equal(first, again) {
			t.Errorf("P3: Split(%q): %q, %v; then %q, %v", s, first, e, again, f)
		}
	}
}
