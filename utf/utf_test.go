package utf_test

import (
	"bytes"
	"math"
	"strings"
	"testing"
	"unicode/utf8"

	"riffle/utf"
)

// spot is what is known of the place behind some bytes that begin a sign: which bytes may
// come, and, of a sign that is whole, that it is, and its number.
type spot struct {
	next  map[byte]*spot
	whole bool
	sign  rune
}

// signs has the bytes of every sign of UTF-8, written out from the chapter's words by the
// library: the walk, which tells by bounds of bytes, is held against it.
func signs() *spot {
	root := &spot{}
	for n := rune(0); n <= 0x10FFFF; n++ {
		if n >= 0xD800 && n <= 0xDFFF {
			continue
		}
		at := root
		for _, c := range utf8.AppendRune(nil, n) {
			if at.next == nil {
				at.next = map[byte]*spot{}
			}
			if at.next[c] == nil {
				at.next[c] = &spot{}
			}
			at = at.next[c]
		}
		at.whole, at.sign = true, n
	}
	return root
}

// walked is a walk behind these bytes, each of which must be stepped through.
func walked(t *testing.T, s string) utf.Walk {
	t.Helper()
	var w utf.Walk
	for i := range len(s) {
		if !w.Step(s[i]) {
			t.Fatalf("Step of byte %d of %q is false", i, s)
		}
	}
	return w
}

// tryAll holds Step of each of all 256 bytes, behind begun, against what is known there.
func tryAll(t *testing.T, at *spot, begun []byte, w utf.Walk) {
	for c := range 256 {
		after, known := w, at.next[byte(c)]
		if got := after.Step(byte(c)); got != (known != nil) {
			t.Fatalf("behind % x: Step(%#x) = %v", begun, c, got)
		}
		if known == nil {
			if after != w {
				t.Fatalf("behind % x: the refused %#x moved the walk", begun, c)
			}
			continue
		}
		if after.Within() == known.whole || after.Sign() != known.sign {
			t.Fatalf("behind % x %x: Within %v, Sign %#x, want %v, %#x", begun, c, after.Within(), after.Sign(), !known.whole, known.sign)
		}
		if !known.whole {
			tryAll(t, known, append(begun, byte(c)), after)
		}
	}
}

// P2.1: behind whatever begins a sign, each of all 256 bytes, with Within and Sign behind it.
func TestStepOfEachByteBehindEachBeginning(t *testing.T) {
	tryAll(t, signs(), nil, utf.Walk{})
}

// P2.1: between two signs a walk goes on as at the beginning, whichever sign is behind it.
func TestStepBetweenSigns(t *testing.T) {
	texts := []string{"\x00", "\x04", "\x0d", "\x10", "a", "\x7f", "\u0080", "\u00e9", "\u07ff", "\u0800", "\u20ac", "\ud7ff", "\ue000", "\ufffd", "\uffff", "\U00010000", "\U0001f600", "\U0010ffff"}
	for _, behind := range texts {
		for c := range 256 {
			var fresh utf.Walk
			w := walked(t, behind)
			if got, want := w.Step(byte(c)), fresh.Step(byte(c)); got != want {
				t.Errorf("behind %q: Step(%#x) = %v, want %v", behind, c, got, want)
			}
		}
		for _, sign := range texts {
			w := walked(t, behind+sign)
			want, _ := utf8.DecodeRuneInString(sign)
			if w.Within() || w.Sign() != want {
				t.Errorf("behind %q, %q: Within %v, Sign %#x", behind, sign, w.Within(), w.Sign())
			}
		}
	}
}

// P2.1: at the beginning it is within no sign, and has none.
func TestWalkAtTheBeginning(t *testing.T) {
	var w utf.Walk
	if w.Within() || w.Sign() != 0 {
		t.Errorf("Within %v, Sign %#x", w.Within(), w.Sign())
	}
}

// P2.1: the edges that the chapter names, byte by byte; the last byte is refused, where it is.
func TestStepAtEdges(t *testing.T) {
	cases := []struct {
		text string
		last bool
		sign rune
	}{
		{"\x00", true, 0},
		{"\x7f", true, 0x7F},
		{"\x80", false, 0}, {"\xbf", false, 0}, // no sign begins so
		{"\xc0", false, 0}, {"\xc1", false, 0}, // two bytes, where one is enough
		{"\xc2\x7f", false, 0}, {"\xc2\x80", true, 0x80},
		{"\xdf\xbf", true, 0x7FF}, {"\xdf\xc0", false, 0},
		{"\xe0\x80", false, 0}, {"\xe0\x9f", false, 0}, // three, where two are enough
		{"\xe0\xa0", true, 0}, {"\xe0\xa0\x80", true, 0x800},
		{"\xed\x9f\xbf", true, 0xD7FF}, {"\xed\xa0", false, 0}, {"\xed\xbf", false, 0}, {"\xee\x80\x80", true, 0xE000},
		{"\xef\xbf\xbf", true, 0xFFFF},
		{"\xf0\x80", false, 0}, {"\xf0\x8f", false, 0}, // four, where three are enough
		{"\xf0\x90", true, 0}, {"\xf0\x90\x80", true, 0}, {"\xf0\x90\x80\x80", true, 0x10000},
		{"\xf4\x8f\xbf\xbf", true, 0x10FFFF}, {"\xf4\x90", false, 0},
		{"\xf5", false, 0}, {"\xf8", false, 0}, {"\xfc", false, 0}, {"\xfe", false, 0}, {"\xff", false, 0},
	}
	for _, x := range cases {
		end := len(x.text) - 1
		w := walked(t, x.text[:end])
		if got := w.Step(x.text[end]); got != x.last || w.Sign() != x.sign {
			t.Errorf("% x: %v, Sign %#x, want %v, %#x", x.text, got, w.Sign(), x.last, x.sign)
		}
	}
}

// P2.1: a refused byte leaves all as it was: the sign that ended ahead of it, and one that goes on.
func TestRefusedByteChangesNothing(t *testing.T) {
	w := walked(t, "\u00e9")
	for _, c := range []byte{0x80, 0xBF, 0xC0, 0xC1, 0xF5, 0xFF} {
		if w.Step(c) || w.Within() || w.Sign() != 0xE9 {
			t.Errorf("refused %#x: Within %v, Sign %#x", c, w.Within(), w.Sign())
		}
	}
	for _, c := range []byte("\xf0\x9f\x98\x80") {
		if !w.Step(c) {
			t.Fatalf("Step(%#x) is false", c)
		}
		if !w.Within() {
			continue
		}
		for _, wrong := range []byte{0, 'a', 0x7F, 0xC0, 0xC2, 0xE2, 0xF0, 0xFF} {
			if w.Step(wrong) || !w.Within() || w.Sign() != 0 {
				t.Errorf("refused %#x behind %#x: Within %v, Sign %#x", wrong, c, w.Within(), w.Sign())
			}
		}
	}
	if w.Within() || w.Sign() != 0x1F600 {
		t.Errorf("at the end: Within %v, Sign %#x", w.Within(), w.Sign())
	}
}

// P2: one walk has nothing to do with another one, nor a copy with what it was taken of.
func TestWalksStandAlone(t *testing.T) {
	one, other := walked(t, "\xe2\x82"), walked(t, "\xf0")
	copied := one
	if !one.Step(0xAC) || one.Sign() != 0x20AC {
		t.Errorf("Sign %#x", one.Sign())
	}
	if !copied.Within() || !copied.Step(0xAD) || copied.Sign() != 0x20AD {
		t.Errorf("the copy: Sign %#x", copied.Sign())
	}
	if !other.Within() || other.Step(0x8F) || !other.Step(0x90) {
		t.Error("the other one was moved")
	}
}

// P2.2: ordinary texts, edges, and wrong ones.
func TestBad(t *testing.T) {
	cases := map[string]int{
		"": -1, "a": -1, "\x00": -1, "\x7f": -1, "plain text": -1, "h\u00e9llo": -1, "\u20ac\U0001f600": -1,
		"\u0080": -1, "\u07ff": -1, "\u0800": -1, "\ud7ff\ue000": -1, "\ufffd": -1, "\uffff": -1, "\U00010000": -1, "\U0010ffff": -1,
		"\xc3\xa9": -1, "\xc3\x41": 1, "\xc0": 0, // the chapter's examples
		"\x80": 0, "a\xbf": 1, "\u00e9\xa9": 2, // a byte that goes on, where nothing has begun
		"\xc0\x80": 0, "\xc1\xbf": 0, "\xe0\x80\x80": 1, "\xe0\x9f\xbf": 1, "\xf0\x80\x80\x80": 1, "\xf0\x8f\xbf\xbf": 1, // longer forms
		"\xed\xa0\x80": 1, "\xed\xbf\xbf": 1, "a\xed\xa0\xbd\xed\xb8\x80": 2, // 0xD800 to 0xDFFF
		"\xf4\x90\x80\x80": 1, "\xf5\x80\x80\x80": 0, "\xf8\x88\x80\x80\x80": 0, "\xff": 0, "\xfe": 0, // above 0x10FFFF
		"\xc3": 1, "\xe2": 1, "\xe2\x82": 2, "\xf0": 1, "\xf0\x9f": 2, "\xf0\x9f\x98": 3, "ab\xf0\x9f\x98": 5, // ends within a sign
		"\xe2\x82\x28": 2, "\xe2\x28": 1, "\xf0\x9f\x98\x28": 3, "\xf0\x9f\x98\xf0": 3, "\xc3\xc3\xa9": 1, // something else within a sign
		"\xff\xc0": 0, "a\xffb\xff": 1, // the first of several
	}
	for s, want := range cases {
		if got := utf.Bad(s); got != want {
			t.Errorf("Bad(%q) = %d, want %d", s, got, want)
		}
	}
}

// placed is Bad by its definition: the first byte at which no text of UTF-8 begins so.
func placed(root *spot, s string) int {
	at := root
	for i := range len(s) {
		if at.whole {
			at = root
		}
		if at = at.next[s[i]]; at == nil {
			return i
		}
	}
	if s != "" && !at.whole {
		return len(s)
	}
	return -1
}

// P2.2: all texts of up to four bytes of those that stand at an edge.
func TestBadOfShortTexts(t *testing.T) {
	const edges = "\x00a\x7f\x80\x8f\x90\x9f\xa0\xbf\xc0\xc1\xc2\xdf\xe0\xe1\xec\xed\xee\xef\xf0\xf1\xf3\xf4\xf5\xff"
	root := signs()
	var try func(s string)
	try = func(s string) {
		if got, want := utf.Bad(s), placed(root, s); got != want {
			t.Fatalf("Bad(%q) = %d, want %d", s, got, want)
		}
		if got := utf.Bad(s) == -1; got != utf8.ValidString(s) {
			t.Fatalf("Bad(%q) is -1: %v", s, got)
		}
		for i := range len(edges) {
			if len(s) < 4 {
				try(s + edges[i:i+1])
			}
		}
	}
	try("")
}

// P2.2: a long text is gone through to its end.
func TestBadOfLongTexts(t *testing.T) {
	long := strings.Repeat("a\u00e9\u20ac\U0001f600", 10000)
	for tail, want := range map[string]int{"": -1, "\xff": len(long), "\xe2\x82": len(long) + 2, "\xe2\x82a": len(long) + 2} {
		if got := utf.Bad(long + tail); got != want {
			t.Errorf("with %q: %d, want %d", tail, got, want)
		}
	}
}

// P2.3: the bytes of each number, and of numbers that UTF-8 hasn't.
func TestPutOfEachNumber(t *testing.T) {
	for n := rune(-3); n <= 0x110003; n++ {
		want := "\xef\xbf\xbd"
		if n >= 0 && n < 0xD800 || n > 0xDFFF && n <= 0x10FFFF {
			want = string(utf8.AppendRune(nil, n))
		}
		if got := string(utf.Put(nil, n)); got != want {
			t.Fatalf("Put(nil, %#x) = % x, want % x", n, got, want)
		}
	}
}

// P2.3: the least and the greatest number of each length, and those just beside what UTF-8 hasn't.
func TestPutAtEdges(t *testing.T) {
	const none = "\xef\xbf\xbd"
	cases := map[rune]string{
		0: "\x00", 0x7F: "\x7f", 0x80: "\xc2\x80", 0x7FF: "\xdf\xbf", 0x800: "\xe0\xa0\x80",
		0xD7FF: "\xed\x9f\xbf", 0xD800: none, 0xDBFF: none, 0xDC00: none, 0xDFFF: none, 0xE000: "\xee\x80\x80",
		0xFFFD: none, 0xFFFF: "\xef\xbf\xbf", 0x10000: "\xf0\x90\x80\x80", 0x10FFFF: "\xf4\x8f\xbf\xbf",
		0x110000: none, -1: none, 0x1FFFFF: none, 0x200000: none, 1 << 24: none, math.MaxInt32: none, math.MinInt32: none, math.MinInt32 + 65: none,
	}
	for n, want := range cases {
		if got := string(utf.Put([]byte("x\xff"), n)); got != "x\xff"+want {
			t.Errorf("Put(%#x) = % x, want % x behind x and ff", n, got, want)
		}
	}
}

// P2.3: what Put puts, the walk reads as the number it was.
func TestPutAndWalkUndoOneAnother(t *testing.T) {
	var text []byte
	var numbers []rune
	for n := rune(0); n <= 0x10FFFF; n += 4099 {
		if utf.Unit(int(n)) == 0 {
			text, numbers = utf.Put(text, n), append(numbers, n)
		}
	}
	var w utf.Walk
	for i, c := range text {
		if !w.Step(c) {
			t.Fatalf("byte %d is refused", i)
		}
		if w.Within() {
			continue
		}
		if len(numbers) == 0 || w.Sign() != numbers[0] {
			t.Fatalf("at byte %d the sign %#x", i, w.Sign())
		}
		numbers = numbers[1:]
	}
	if len(numbers) > 0 {
		t.Errorf("%d numbers are missing", len(numbers))
	}
}

// P2.3 and the rules: b isn't changed, its spare room neither, and the answer shares nothing with it.
func TestPutIsNewMemory(t *testing.T) {
	for _, n := range []rune{'a', 0xE9, 0x20AC, 0x1F600, 0xD800, -1} {
		room := []byte("head1234567890")
		b := room[:4]
		first := utf.Put(b, n)
		second := utf.Put(b, 'z')
		if string(room) != "head1234567890" {
			t.Errorf("Put(%#x) changed what was handed in: %q", n, room)
		}
		want := bytes.Clone(first)
		second = second[:cap(second)]
		for i := range second {
			second[i] = 0xAA
		}
		for i := range room {
			room[i] = 0xBB
		}
		if !bytes.Equal(first, want) {
			t.Errorf("Put(%#x) shares memory: % x", n, first)
		}
	}
}

// P2.3 and the rules: no list, and an empty one, are one.
func TestPutBehindNothing(t *testing.T) {
	for _, b := range [][]byte{nil, {}, make([]byte, 0, 16)} {
		if got := string(utf.Put(b, 0x20AC)); got != "\xe2\x82\xac" {
			t.Errorf("% x", got)
		}
	}
}

// P2.3: Unit of each number around the pairs.
func TestUnit(t *testing.T) {
	for n := 0xD000; n <= 0xF000; n++ {
		want := 0
		switch n & 0xFC00 {
		case 0xD800:
			want = 1
		case 0xDC00:
			want = 2
		}
		if got := utf.Unit(n); got != want {
			t.Fatalf("Unit(%#x) = %d, want %d", n, got, want)
		}
	}
}

// P2.3 and P1: numbers far outside of the pairs, such as have a pair's lower bits among them.
func TestUnitOfOthers(t *testing.T) {
	others := []int{
		0, 1, -1, 'a', 0xD7FF, 0xE000, 0xFFFD, 0x10FFFF, 0x1D800, 0x1DC00, 0xD8, 0xDC, -0xD800, -0xDC00,
		1<<32 + 0xD800, 1<<32 + 0xDC00, -1<<32 + 0xD800, 1<<16 + 0xDFFF, math.MaxInt64, math.MinInt64, math.MinInt64 + 0xD800,
	}
	for _, n := range others {
		if got := utf.Unit(n); got != 0 {
			t.Errorf("Unit(%#x) = %d, want 0", n, got)
		}
	}
}
