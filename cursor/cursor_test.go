package cursor_test

import (
	"bytes"
	"math"
	"strings"
	"testing"

	"riffle/cursor"
)

// texts are chunks as texts.
func texts(chunks [][]byte) []string {
	all := make([]string, 0, len(chunks))
	for _, c := range chunks {
		all = append(all, string(c))
	}
	return all
}

// equal tells whether two lists have the same texts.
func equal(a, b []string) bool {
	if len(a) != len(b) {
		return false
	}
	for i := range a {
		if a[i] != b[i] {
			return false
		}
	}
	return true
}

// P3.1: ordinary sizes, and the edges that the chapter names.
func TestCut(t *testing.T) {
	cases := []struct {
		b     string
		sizes []int
		want  []string
	}{
		{"abcde", []int{2, 0}, []string{"ab", "", "cde"}}, // the chapter's example
		{"abcde", []int{2, 3}, []string{"ab", "cde"}},     // nothing is left
		{"abcde", []int{1, 1, 1}, []string{"a", "b", "c", "de"}},
		{"abcde", nil, []string{"abcde"}},
		{"abcde", []int{0}, []string{"", "abcde"}},
		{"abcde", []int{0, 0, 0}, []string{"", "", "", "abcde"}},
		{"abcde", []int{-1}, []string{"", "abcde"}},
		{"abcde", []int{2, -1, 2}, []string{"ab", "", "cd", "e"}}, // below 0 goes back by none
		{"abcde", []int{-5, 1}, []string{"", "a", "bcde"}},
		{"abcde", []int{4}, []string{"abcd", "e"}},
		{"abcde", []int{5}, []string{"abcde"}},
		{"abcde", []int{6}, []string{"abcde"}}, // more than are left
		{"abcde", []int{4, 2}, []string{"abcd", "e"}},
		{"abcde", []int{9, 1, 0, -1, 9}, []string{"abcde", "", "", "", ""}}, // a chunk for each size, though none are left
		{"abcde", []int{math.MaxInt64}, []string{"abcde"}},
		{"abcde", []int{1, math.MaxInt64, math.MaxInt64}, []string{"a", "bcde", ""}},
		{"abcde", []int{math.MinInt64, 2, math.MinInt64}, []string{"", "ab", "", "cde"}},
		{"", nil, []string{}}, // no bytes
		{"", []int{0}, []string{""}},
		{"", []int{3, -3, 0}, []string{"", "", ""}},
		{"\x00\xff\x80", []int{1, 1}, []string{"\x00", "\xff", "\x80"}},
	}
	for _, x := range cases {
		if got := texts(cursor.Cut([]byte(x.b), x.sizes...)); !equal(got, x.want) {
			t.Errorf("Cut(%q, %v) = %q, want %q", x.b, x.sizes, got, x.want)
		}
	}
	if got := cursor.Cut(nil); len(got) != 0 {
		t.Errorf("Cut(nil) = %q", got)
	}
	if got := texts(cursor.Cut(nil, 2)); !equal(got, []string{""}) {
		t.Errorf("Cut(nil, 2) = %q", got)
	}
}

// P3.1: three sizes each, from below 0 to above what there is: how long each chunk is, and that Join undoes it.
func TestCutAndJoinUndoOneAnother(t *testing.T) {
	const b = "abcd"
	for one := -2; one <= 6; one++ {
		for two := -2; two <= 6; two++ {
			for three := -2; three <= 6; three++ {
				chunks := cursor.Cut([]byte(b), one, two, three)
				left := len(b)
				for i, size := range []int{one, two, three} {
					want := max(0, min(size, left))
					if len(chunks[i]) != want {
						t.Fatalf("Cut by %d, %d, %d: chunk %d is %q, want %d bytes", one, two, three, i, chunks[i], want)
					}
					left -= want
				}
				if more := len(chunks) - 3; more != min(left, 1) || more == 1 && len(chunks[3]) != left {
					t.Fatalf("Cut by %d, %d, %d: %q, where %d are left behind the sizes", one, two, three, chunks, left)
				}
				if got := string(cursor.Join(chunks)); got != b {
					t.Fatalf("Cut by %d, %d, %d, joined: %q", one, two, three, got)
				}
			}
		}
	}
}

// P3.1: Join of ordinary chunks, of empty ones, and of none.
func TestJoin(t *testing.T) {
	cases := []struct {
		chunks [][]byte
		want   string
	}{
		{nil, ""},
		{[][]byte{}, ""},
		{[][]byte{nil}, ""},
		{[][]byte{nil, {}, nil}, ""},
		{[][]byte{[]byte("ab")}, "ab"},
		{[][]byte{[]byte("ab"), nil, []byte("c"), {}, []byte("de")}, "abcde"},
		{[][]byte{{0}, {255}, {128}}, "\x00\xff\x80"},
	}
	for _, x := range cases {
		if got := string(cursor.Join(x.chunks)); got != x.want {
			t.Errorf("Join(%q) = %q, want %q", x.chunks, got, x.want)
		}
	}
	one := []byte("xyz")
	if got := string(cursor.Join([][]byte{one, one[1:], one})); got != "xyzyzxyz" {
		t.Errorf("chunks of one memory: %q", got)
	}
}

// fill writes over a list and its spare room.
func fill(b []byte) {
	b = b[:cap(b)]
	for i := range b {
		b[i] = 'X'
	}
}

// P3.1 and the rules: chunks are new memory, of their own each, spare room too.
func TestCutIsNewMemory(t *testing.T) {
	room := []byte("abcdefgh")
	sizes := []int{2, 0, -1, 2}
	chunks := cursor.Cut(room[:6], sizes...)
	want := []string{"ab", "", "", "cd", "ef"}
	for i := range chunks {
		fill(chunks[i])
		for k := i + 1; k < len(chunks); k++ {
			if string(chunks[k]) != want[k] {
				t.Errorf("chunk %d is written over by chunk %d: %q", k, i, chunks[k])
			}
		}
	}
	if string(room) != "abcdefgh" {
		t.Errorf("chunks write into what was handed in: %q", room)
	}
	if sizes[0] != 2 || sizes[1] != 0 || sizes[2] != -1 || sizes[3] != 2 {
		t.Errorf("the sizes were changed: %v", sizes)
	}
	chunks = cursor.Cut(room[:6], sizes...)
	fill(room)
	if got := texts(chunks); !equal(got, want) {
		t.Errorf("what was handed in writes into chunks: %q", got)
	}
}

// P3.1 and the rules: what Join answers is new memory, and what is handed in stays as it was.
func TestJoinIsNewMemory(t *testing.T) {
	for _, more := range [][][]byte{nil, {nil}, {[]byte("z")}} {
		room := []byte("abcdefgh")
		chunks := append([][]byte{room[:3]}, more...)
		want := strings.Join(texts(chunks), "")
		fill(cursor.Join(chunks))
		if string(room) != "abcdefgh" || strings.Join(texts(chunks), "") != want {
			t.Errorf("Join's answer writes into what was handed in: %q, %q", room, chunks)
		}
		got := cursor.Join(chunks)
		fill(room)
		if string(got) != want {
			t.Errorf("what was handed in writes into the answer: %q", got)
		}
	}
}

// model is a strip by the chapter's words.
type model struct {
	from int
	b    string
}

// drop drops as the chapter says it.
func (m *model) drop(to int) int {
	n := 0
	for len(m.b) > 0 && m.from < to {
		m.b, m.from, n = m.b[1:], m.from+1, n+1
	}
	return n
}

// check holds a strip against its model: From, To, Len, and Get at all places on it and just beside it.
func check(t *testing.T, s *cursor.Strip, m model) {
	t.Helper()
	to := m.from + len(m.b)
	if s.From() != m.from || s.To() != to || s.Len() != len(m.b) {
		t.Fatalf("From %d, To %d, Len %d, want %d, %d, %d", s.From(), s.To(), s.Len(), m.from, to, len(m.b))
	}
	for a := m.from - 2; a <= to+2; a++ {
		for z := m.from - 2; z <= to+2; z++ {
			want, there := "", m.from <= a && a <= z && z <= to
			if there {
				want = m.b[a-m.from : z-m.from]
			}
			if got, ok := s.Get(a, z); got != want || ok != there {
				t.Fatalf("strip from %d to %d: Get(%d, %d) = %q, %v, want %q, %v", m.from, to, a, z, got, ok, want, there)
			}
		}
	}
}

// P3.2: a strip at a place, at 0, and at places below 0.
func TestNew(t *testing.T) {
	for at, want := range map[int]int{0: 0, 1: 1, 7: 7, -1: 0, -7: 0, math.MinInt64: 0, 1 << 40: 1 << 40, 1 << 62: 1 << 62} {
		s := cursor.New(at)
		check(t, s, model{from: want})
		if n := s.Drop(math.MaxInt64); n != 0 {
			t.Errorf("New(%d): Drop of all is %d", at, n)
		}
		check(t, s, model{from: want})
	}
}

// P3.2: the chapter's example, and Add of one, several and none.
func TestAdd(t *testing.T) {
	s := cursor.New(7)
	s.Add()
	check(t, s, model{from: 7})
	s.Add('a')
	check(t, s, model{7, "a"})
	s.Add(nil...)
	s.Add([]byte{}...)
	s.Add()
	check(t, s, model{7, "a"})
	s.Add('b', 'c')
	check(t, s, model{7, "abc"})
	if n := s.Drop(8); n != 1 {
		t.Errorf("Drop(8) = %d", n)
	}
	check(t, s, model{8, "bc"})
	s.Add(0, 255, 128)
	check(t, s, model{8, "bc\x00\xff\x80"})
}

// P3.2: Drop to each place from below From to above To, of strips of each length, and what can be added behind it.
func TestDropToEachPlace(t *testing.T) {
	const b = "abcdef"
	for length := range len(b) + 1 {
		for _, at := range []int{0, 1, 5, 1 << 40} {
			for to := at - 3; to <= at+length+3; to++ {
				s, m := cursor.New(at), model{at, b[:length]}
				s.Add([]byte(m.b)...)
				if got, want := s.Drop(to), m.drop(to); got != want {
					t.Fatalf("%d bytes at %d: Drop(%d) = %d, want %d", length, at, to, got, want)
				}
				check(t, s, m)
				if got := s.Drop(to); got != 0 {
					t.Fatalf("%d bytes at %d: Drop(%d) again = %d", length, at, to, got)
				}
				s.Add([]byte("xyz")...)
				m.b += "xyz"
				check(t, s, m)
			}
		}
	}
}

// P3.2 and P1: places far off.
func TestFarPlaces(t *testing.T) {
	s, m := cursor.New(5), model{5, "abc"}
	s.Add([]byte(m.b)...)
	for _, to := range []int{math.MinInt64, math.MinInt64 + 4, -1 << 62, -1, 0} {
		if got := s.Drop(to); got != 0 {
			t.Errorf("Drop(%d) = %d", to, got)
		}
		check(t, s, m)
	}
	far := []int{math.MinInt64, math.MinInt64 + 6, -1, 0, 4, 9, 1 << 62, math.MaxInt64}
	for _, a := range far {
		for _, z := range append(far, 5, 6, 8) {
			if got, ok := s.Get(a, z); ok || got != "" {
				t.Errorf("Get(%d, %d) = %q, %v", a, z, got, ok)
			}
			if got, ok := s.Get(z, a); ok || got != "" {
				t.Errorf("Get(%d, %d) = %q, %v", z, a, got, ok)
			}
		}
	}
	if got := s.Drop(math.MaxInt64); got != 3 {
		t.Errorf("Drop of all = %d", got)
	}
	check(t, s, model{from: 8})
}

// P3.2: long runs of Add and Drop, in a mixed order, against the model.
func TestAddAndDropInTurn(t *testing.T) {
	seed := uint32(1)
	next := func(n int) int { // the same numbers in each run
		seed = seed*1664525 + 1013904223
		return int(seed>>8) % n
	}
	for run := range 40 {
		s, m := cursor.New(run), model{from: run}
		c := byte('a')
		for range 60 {
			if next(3) > 0 {
				more := make([]byte, next(6))
				for i := range more {
					more[i], c = c, c+1
				}
				s.Add(more...)
				m.b += string(more)
			} else {
				to := m.from + next(len(m.b)+4) - 2
				if got, want := s.Drop(to), m.drop(to); got != want {
					t.Fatalf("run %d: Drop(%d) = %d, want %d", run, to, got, want)
				}
			}
			check(t, s, m)
		}
	}
}

// P3.2: many bytes, dropped one at a time, take no longer than they must.
func TestDropOneAtATime(t *testing.T) {
	const n = 1 << 20
	s := cursor.New(0)
	s.Add(bytes.Repeat([]byte("0123456789abcdef"), n/16)...)
	for i := range n {
		if got, ok := s.Get(i, i+1); !ok || got != "0123456789abcdef"[i%16:i%16+1] {
			t.Fatalf("Get(%d, %d) = %q, %v", i, i+1, got, ok)
		}
		if s.Drop(i+1) != 1 || s.From() != i+1 || s.To() != n {
			t.Fatalf("behind Drop(%d): From %d, To %d", i+1, s.From(), s.To())
		}
	}
}

// P3.2 and the rules: what was added may be written over, and what was got stays.
func TestStripIsItsOwn(t *testing.T) {
	room := []byte("abcdefgh")
	s := cursor.New(0)
	s.Add(room[:6]...)
	fill(room)
	check(t, s, model{0, "abcdef"})
	got, _ := s.Get(1, 5)
	s.Drop(4)
	s.Add([]byte(strings.Repeat("z", 100))...)
	s.Drop(90)
	if got != "bcde" {
		t.Errorf("what was got has changed: %q", got)
	}
	check(t, s, model{90, strings.Repeat("z", 16)})
}

// P2: one strip has nothing to do with another one.
func TestStripsStandAlone(t *testing.T) {
	one, other := cursor.New(0), cursor.New(0)
	one.Add([]byte("abc")...)
	other.Add([]byte("xy")...)
	one.Drop(2)
	check(t, one, model{2, "c"})
	check(t, other, model{0, "xy"})
	other.Drop(9)
	check(t, one, model{2, "c"})
	check(t, other, model{from: 2})
}
