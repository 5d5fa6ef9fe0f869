package line

import (
	"math/rand/v2"
	"slices"
	"strings"
	"testing"
)

// plain keeps all bytes of a line till its end is there.
type plain struct {
	most int
	line string
}

// text is what may be told, and whether there is more.
func (p *plain) text(line string) Line {
	if len(line) > p.most-2 {
		return Line{Text: line[:p.most-2], Long: true}
	}
	return Line{Text: line}
}

func (p *plain) next(in string) (Line, bool, string) {
	all := p.line + in
	line, left, ended := strings.Cut(all, "\r\n")
	if !ended {
		p.line = all
		return Line{}, false, ""
	}
	p.line = ""
	return p.text(line), true, left
}

func (p *plain) feed(in string) []Line {
	var lines []Line
	for {
		l, ended, left := p.next(in)
		if !ended {
			return lines
		}
		lines, in = append(lines, l), left
	}
}

func (p *plain) bound(most int) bool {
	if most < 2 || most > 1<<16 || p.line != "" {
		return false
	}
	p.most = most
	return true
}

func (p *plain) held() int {
	text, isCR := strings.CutSuffix(p.line, "\r")
	if isCR {
		return min(len(text), p.most-2) + 1
	}
	return min(len(text), p.most-2)
}

// pull tells by Next again and again, as Feed does.
func pull(s *Splitter, b []byte) []Line {
	var lines []Line
	for {
		l, ended, left := s.Next(b)
		if !ended {
			return lines
		}
		lines, b = append(lines, l), left
	}
}

// cutAsFed asks of a text in those pieces for the plain splitter's lines, and for as many bytes held, by Feed and by Next.
func cutAsFed(t *testing.T, most int, pieces []string) {
	t.Helper()
	fed, pulled, p := made(t, most), made(t, most), &plain{most: most}
	for i, piece := range pieces {
		want := p.feed(piece)
		if got := fed.Feed([]byte(piece)); !slices.Equal(got, want) {
			t.Fatalf("P1302: most %d, %q: Feed of piece %d: %s; want %s", most, pieces, i, shown(got), shown(want))
		}
		if got := pull(pulled, []byte(piece)); !slices.Equal(got, want) {
			t.Fatalf("P1302: most %d, %q: Next of piece %d: %s; want %s", most, pieces, i, shown(got), shown(want))
		}
		if n := p.held(); fed.Held() != n || pulled.Held() != n || n > most-1 {
			t.Fatalf("P1302: most %d, %q: %d and %d held behind piece %d; want %d", most, pieces, fed.Held(), pulled.Held(), i, n)
		}
	}
}

// allTexts are all texts of up to n bytes, each an ordinary one, a CR or an LF.
func allTexts(n int) []string {
	all := []string{""}
	for at := 0; len(all[at]) < n; at++ {
		for _, c := range "a\r\n" {
			all = append(all, all[at]+string(c))
		}
	}
	return all
}

// cuts is a text cut behind its i-th byte where bit i is 1.
func cuts(s string, bits int) []string {
	var pieces []string
	from := 0
	for i := range len(s) {
		if bits>>i&1 == 1 {
			pieces = append(pieces, s[from:i+1])
			from = i + 1
		}
	}
	return append(pieces, s[from:])
}

// TestAllCutsOfShortTexts: P1302, of each short text, each way to cut it, and each bound around its size.
func TestAllCutsOfShortTexts(t *testing.T) {
	for _, s := range allTexts(6) {
		for most := 2; most <= 6; most++ {
			for bits := range 1 << max(len(s)-1, 0) {
				cutAsFed(t, most, cuts(s, bits))
			}
		}
	}
}

// TestAllTexts has somewhat longer ones, whole and byte by byte.
func TestAllTexts(t *testing.T) {
	for _, s := range allTexts(9) {
		for _, most := range []int{2, 3, 4, 7} {
			cutAsFed(t, most, []string{s})
			cutAsFed(t, most, cuts(s, -1))
		}
	}
}

// drawnText is lines and what looks like their ends, short and around the bound.
func drawnText(r *rand.Rand, most int) string {
	var b strings.Builder
	ends := []string{"\r\n", "\r\n", "\r\n", "\r\n\r\n", "\r", "\n", "\r\r\n", "\n\r", "\r\r", ""}
	for range r.IntN(12) {
		sizes := []int{0, 1, 2, r.IntN(20), most - 4, most - 3, most - 2, most - 1, most, most + r.IntN(3*most)}
		for range sizes[r.IntN(len(sizes))] {
			b.WriteByte(drawnByte(r))
		}
		b.WriteString(ends[r.IntN(len(ends))])
	}
	return b.String()
}

func drawnByte(r *rand.Rand) byte {
	switch r.IntN(20) {
	case 0:
		return '\r'
	case 1:
		return '\n'
	}
	return byte(r.IntN(256))
}

// drawnPieces cuts a text at places that are drawn, some of them again and again.
func drawnPieces(r *rand.Rand, s string) []string {
	at := []int{0, len(s)}
	for range r.IntN(10) {
		place := r.IntN(len(s) + 1)
		at = append(at, place, min(place+r.IntN(3), len(s)))
	}
	slices.Sort(at)
	var pieces []string
	for i := range at[1:] {
		pieces = append(pieces, s[at[i]:at[i+1]])
	}
	return pieces
}

// TestPiecesOfEachSize: P1302, of texts with short and long lines.
func TestPiecesOfEachSize(t *testing.T) {
	r := rand.New(rand.NewPCG(13, 1))
	for _, most := range []int{2, 3, 4, 8, 30, 64} {
		for range 10 {
			s := drawnText(r, most)
			for size := 1; size <= len(s)+1; size++ {
				var pieces []string
				for piece := range slices.Chunk([]byte(s), size) {
					pieces = append(pieces, string(piece))
				}
				cutAsFed(t, most, pieces)
			}
		}
	}
}

// TestPiecesThatAreDrawn: P1302, pieces of no bytes among them.
func TestPiecesThatAreDrawn(t *testing.T) {
	r := rand.New(rand.NewPCG(13, 2))
	for range 5000 {
		most := []int{2, 3, 4, 5, 10, 100, 512}[r.IntN(7)]
		cutAsFed(t, most, drawnPieces(r, drawnText(r, most)))
	}
	for range 20 {
		cutAsFed(t, 1<<16, drawnPieces(r, drawnText(r, 1<<16)))
	}
}

// TestWalks has all calls in rows that are drawn; P3: the same calls answer the same.
func TestWalks(t *testing.T) {
	r := rand.New(rand.NewPCG(13, 3))
	for range 3000 {
		most := 2 + r.IntN(12)
		one, two, p := made(t, most), made(t, most), &plain{most: most}
		for range 40 {
			step(t, r, []*Splitter{one, two}, p)
			for _, s := range []*Splitter{one, two} {
				if s.Held() != p.held() || p.held() > p.most-1 {
					t.Fatalf("P1301: most %d: %d held behind %q; want %d", p.most, s.Held(), p.line, p.held())
				}
			}
		}
	}
}

// step makes one call of each splitter, and of the plain one.
func step(t *testing.T, r *rand.Rand, all []*Splitter, p *plain) {
	t.Helper()
	in, bound := drawnPieces(r, drawnText(r, 4))[0], r.IntN(18)-1
	was := *p
	switch r.IntN(8) {
	case 0:
		want := p.bound(bound)
		for _, s := range all {
			mosts(t, s, bound, want)
		}
	case 1:
		p.line = ""
		for _, s := range all {
			s.Reset()
		}
	case 2, 3, 4:
		want := p.feed(in)
		for _, s := range all {
			if got := s.Feed([]byte(in)); !slices.Equal(got, want) {
				t.Fatalf("P1301: %+v: Feed(%q): %s; want %s", was, in, shown(got), shown(want))
			}
		}
	default:
		want, ended, left := p.next(in)
		for _, s := range all {
			if got, ok, rest := s.Next([]byte(in)); got != want || ok != ended || string(rest) != left {
				t.Fatalf("P1301: %+v: Next(%q): %+v, %v, %q; want %+v, %v, %q", was, in, got, ok, rest, want, ended, left)
			}
		}
	}
}
