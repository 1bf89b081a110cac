package numeral_test

import (
	"regexp"
	"strings"
	"testing"

	"riffle/numeral"
)

// form is the chapter's words for a numeral, to hold the walk against.
var form = regexp.MustCompile(`\A-?(0|[1-9][0-9]*)(\.[0-9]+)?([eE][+-]?[0-9]+)?\z`)

// begins tells whether some numeral begins with a text: it is one, or lacks a digit.
func begins(s string) bool { return form.MatchString(s) || form.MatchString(s+"0") }

// sticks tells of a byte that it doesn't end a numeral, by the chapter's words.
func sticks(c byte) bool {
	return strings.IndexByte("0123456789.+-abcdefghijklmnopqrstuvwxyzABCDEFGHIJKLMNOPQRSTUVWXYZ", c) >= 0
}

// answer is Step's by its definition, of a byte behind what was stepped through.
func answer(behind string, c byte) int {
	switch {
	case begins(behind + string([]byte{c})):
		return 0
	case form.MatchString(behind) && !sticks(c):
		return 1
	}
	return 2
}

// fault is Fault's by its definition.
func fault(s string) int {
	for at := range len(s) {
		if answer(s[:at], s[at]) != 0 {
			return at
		}
	}
	if form.MatchString(s) {
		return -1
	}
	return len(s)
}

// count is Count's by its definition.
func count(s string) int {
	for n := len(s); n > 0; n-- {
		if form.MatchString(s[:n]) {
			return n
		}
	}
	return 0
}

// walked is a walk behind these bytes, each of which must be stepped through.
func walked(t *testing.T, s string) numeral.Walk {
	t.Helper()
	var w numeral.Walk
	for at := range len(s) {
		if got := w.Step(s[at]); got != numeral.Goes {
			t.Fatalf("Step of byte %d of %q = %d", at, s, got)
		}
	}
	return w
}

// begun has texts with which numerals begin, of each kind of place that there is in one.
var begun = []string{
	"", "-",
	"0", "-0", "1", "9", "-5", "10", "12", "-120",
	"0.", "-0.", "7.", "12.",
	"0.0", "-0.5", "1.2", "12.50",
	"0e", "0E", "-1e", "12E", "0.0e", "1.5E",
	"0e+", "0e-", "0E+", "-1E-", "1.5e+", "1.5E-",
	"0e0", "1e5", "1e05", "0E+0", "-1E-12", "1.5e+00", "12.50e-0",
}

// Other layers, and those who use the program, count on the numbers of the answers.
func TestAnswersAreNumberedAsTheChapterSays(t *testing.T) {
	if numeral.Goes != 0 || numeral.Ends != 1 || numeral.Bad != 2 {
		t.Errorf("Goes %d, Ends %d, Bad %d", numeral.Goes, numeral.Ends, numeral.Bad)
	}
}

// P4.1: each of all 256 bytes behind each beginning, with Whole behind it.
func TestStepOfEachByteBehindEachBeginning(t *testing.T) {
	for _, s := range begun {
		for c := range 256 {
			w, want := walked(t, s), answer(s, byte(c))
			if got := w.Step(byte(c)); got != want {
				t.Errorf("behind %q: Step(%#x) = %d, want %d", s, c, got, want)
			}
			stepped := s
			if want == numeral.Goes {
				stepped += string([]byte{byte(c)})
			}
			if got := w.Whole(); got != form.MatchString(stepped) {
				t.Errorf("behind %q, Step(%#x): Whole is %v", s, c, got)
			}
		}
	}
}

// P4.1: the bytes that the chapter names, written out: what each does behind each kind of place.
func TestStepAtEdges(t *testing.T) {
	cases := []struct {
		behind, goes, ends, bad string
	}{
		{"", "-0123456789", "", "+.eE ,]}ax\x00\xff"}, // ahead of a numeral nothing ends one
		{"-", "0123456789", "", "-+.eE ,]}a\x00\xff"},
		{"0", ".eE", " \t\n\r,:]}[{\"/\\_!\x00\x7f\x80\xff", "0123456789+-adfxzAZ"}, // a digit behind 0
		{"-0", ".eE", " ,]}", "019+-x"},
		{"5", "0123456789.eE", " \t\n\r,:]}[{\"/\\_!\x00\x7f\x80\xff", "+-adfxzAZ"},
		{"5.", "0123456789", "", ".eE+- ,]}x\x00\xff"}, // no digit behind the point
		{"5.0", "0123456789eE", " \t\n\r,:]}[{\"/\\_!\x00\x7f\x80\xff", ".+-adfxzAZ"},
		{"5e", "0123456789+-", "", ".eE ,]}x\x00\xff"}, // no digit behind e
		{"5E", "0123456789+-", "", ".eE ,]}x\x00\xff"},
		{"5e+", "0123456789", "", "+-.eE ,]}x\x00\xff"}, // no digit behind its sign
		{"5e-", "0123456789", "", "+-.eE ,]}x\x00\xff"},
		{"5E+", "0123456789", "", "+-.eE ,]}x\x00\xff"},
		{"5e0", "0123456789", " \t\n\r,:]}[{\"/\\_!\x00\x7f\x80\xff", ".+-eEadfxzAZ"},
		{"5.5e-05", "0123456789", " ,]}", ".+-eEx"},
	}
	for _, x := range cases {
		for want, bytes := range []string{x.goes, x.ends, x.bad} {
			for at := range len(bytes) {
				w := walked(t, x.behind)
				if got := w.Step(bytes[at]); got != want {
					t.Errorf("behind %q: Step(%q) = %d, want %d", x.behind, bytes[at], got, want)
				}
			}
		}
	}
}

// P4.1: the zero value is ahead of a numeral: nothing is whole there, and no byte ends it.
func TestWalkAtTheBeginning(t *testing.T) {
	for c := range 256 {
		var w numeral.Walk
		if w.Whole() {
			t.Fatal("whole ahead of all")
		}
		digit := c >= '0' && c <= '9'
		want := numeral.Bad
		if digit || c == '-' {
			want = numeral.Goes
		}
		if got := w.Step(byte(c)); got != want || w.Whole() != digit {
			t.Errorf("Step(%#x) = %d, want %d; Whole is %v", c, got, want, w.Whole())
		}
	}
}

// P4.1: Whole byte by byte.
func TestWhole(t *testing.T) {
	for s, want := range map[string]string{ // + where it is whole behind a byte
		"-120":     " +++",
		"0.25":     "+ ++",
		"-0.5e+7":  " + +  +",
		"10E-05":   "++  ++",
		"1e0":      "+ +",
		"-9.0E123": " + + +++",
	} {
		var w numeral.Walk
		for at := range len(s) {
			if w.Step(s[at]) != numeral.Goes || w.Whole() != (want[at] == '+') {
				t.Errorf("%q, behind byte %d: Whole is %v", s, at, w.Whole())
			}
		}
	}
}

// answers are Step's of each of all 256 bytes behind what a walk has stepped through.
func answers(w numeral.Walk) (all [256]int) {
	for c := range all {
		after := w
		all[c] = after.Step(byte(c))
	}
	return all
}

// P4.1: a Step that isn't answered Goes does nothing: all that comes behind it is as if it hadn't been.
func TestRefusedByteChangesNothing(t *testing.T) {
	for _, s := range begun {
		w := walked(t, s)
		first, whole := answers(w), w.Whole()
		for c, answer := range first {
			if answer == numeral.Goes {
				continue
			}
			w := walked(t, s)
			w.Step(byte(c))
			if answers(w) != first || w.Whole() != whole {
				t.Errorf("behind %q: the refused %#x moved the walk", s, c)
			}
		}
	}
}

// P4.1: a numeral with refused bytes at each of its places is walked as one without them.
func TestWalkGoesOnBehindRefusedBytes(t *testing.T) {
	const s = "-10.05E-07"
	var w numeral.Walk
	for at := range len(s) {
		for _, c := range []byte("+.eE x,\x00\xff") {
			if want := answer(s[:at], c); want != numeral.Goes && w.Step(c) != want {
				t.Fatalf("behind %q: Step(%q) isn't %d", s[:at], c, want)
			}
		}
		if w.Step(s[at]) != numeral.Goes || w.Whole() != form.MatchString(s[:at+1]) {
			t.Fatalf("behind %q: %q is refused, or Whole is wrong", s[:at], s[at])
		}
	}
	for range 3 {
		if w.Step(',') != numeral.Ends || w.Step('.') != numeral.Bad || !w.Whole() {
			t.Error("behind its end it doesn't answer the same again")
		}
	}
	if w.Step('7') != numeral.Goes {
		t.Error("a byte that ended it keeps it from going on")
	}
}

// P2: one walk has nothing to do with another one, nor a copy with what it was taken of.
func TestWalksStandAlone(t *testing.T) {
	one, other := walked(t, "1."), walked(t, "-")
	copied := one
	if one.Step('5') != numeral.Goes || !one.Whole() {
		t.Error("1.5 isn't whole")
	}
	if copied.Whole() || copied.Step(',') != numeral.Bad {
		t.Error("the copy was moved")
	}
	if other.Whole() || other.Step('.') != numeral.Bad || other.Step('0') != numeral.Goes {
		t.Error("the other one was moved")
	}
}

// P4.2: ordinary texts, edges, and wrong ones: Fault, with Is, and Count.
func TestIsFaultAndCount(t *testing.T) {
	cases := []struct {
		s            string
		fault, count int
	}{
		{"0", -1, 1}, {"-0", -1, 2}, {"1", -1, 1}, {"9", -1, 1}, {"120", -1, 3}, {"-907", -1, 4},
		{"0.0", -1, 3}, {"0.5", -1, 3}, {"-12.050", -1, 7},
		{"0e0", -1, 3}, {"1e5", -1, 3}, {"1E5", -1, 3}, {"1e+5", -1, 4}, {"1E-05", -1, 5}, {"-1.5e+00", -1, 8},
		{"-0.5e+7", -1, 7}, {"01", 1, 1}, {"1.", 2, 1}, {"12,", 2, 2}, // the chapter's examples
		{"", 0, 0}, {"-", 1, 0}, // nothing is there, or too little
		{"+", 0, 0}, {"+1", 0, 0}, {".", 0, 0}, {".5", 0, 0}, {"e5", 0, 0}, {"E", 0, 0}, {" 1", 0, 0}, {"x", 0, 0}, {"\x00", 0, 0}, {"\xff", 0, 0},
		{"--1", 1, 0}, {"-+1", 1, 0}, {"-.5", 1, 0}, {"-e", 1, 0}, {"-x", 1, 0}, {"- 1", 1, 0},
		{"00", 1, 1}, {"-00", 2, 2}, {"-01", 2, 2}, {"00.5", 1, 1}, // digits behind 0
		{"-1.", 3, 2}, {"1.e5", 2, 1}, {"1.x", 2, 1}, {"1..2", 2, 1}, {"1.-2", 2, 1}, {"1.,", 2, 1}, // no digit behind the point
		{"1e", 2, 1}, {"1E", 2, 1}, {"1.5e", 4, 3}, {"1e,", 2, 1}, {"1e.5", 2, 1}, {"1ee5", 2, 1}, // no digit behind e
		{"1e+", 3, 1}, {"1e-", 3, 1}, {"1E+x", 3, 1}, {"1e+-5", 3, 1}, {"-1.5e--", 6, 4}, // none behind its sign
		{"1e5e5", 3, 3}, {"1e5.5", 3, 3}, {"1e5+5", 3, 3}, {"1.2.3", 3, 3}, {"1-2", 1, 1}, {"1+2", 1, 1}, // once more
		{"1 ", 1, 1}, {"1\n", 1, 1}, {"1]", 1, 1}, {"1a", 1, 1}, {"0x1F", 1, 1}, {"1_000", 1, 1}, {"1,5", 1, 1}, {"1\x00", 1, 1},
		{"1.5 e5", 3, 3}, {"1.5e5,1.5e5", 5, 5}, {"12 13", 2, 2},
		{"NaN", 0, 0}, {"Infinity", 0, 0}, {"-Infinity", 1, 0}, {"true", 0, 0}, {"\u0661", 0, 0}, {"1\u0662", 1, 1}, {"\uff11", 0, 0}, // no other digits
	}
	for _, x := range cases {
		if got := numeral.Fault(x.s); got != x.fault {
			t.Errorf("Fault(%q) = %d, want %d", x.s, got, x.fault)
		}
		if got := numeral.Is(x.s); got != (x.fault == -1) {
			t.Errorf("Is(%q) = %v", x.s, got)
		}
		if got := numeral.Count(x.s); got != x.count {
			t.Errorf("Count(%q) = %d, want %d", x.s, got, x.count)
		}
	}
}

// P4.1 and P4.2: all texts of up to five bytes of those that stand at an edge.
func TestShortTexts(t *testing.T) {
	const edges = "-+019.eE, x"
	var try func(s string)
	try = func(s string) {
		want := fault(s)
		if got := numeral.Fault(s); got != want {
			t.Fatalf("Fault(%q) = %d, want %d", s, got, want)
		}
		if got := numeral.Is(s); got != form.MatchString(s) {
			t.Fatalf("Is(%q) = %v", s, got)
		}
		if got := numeral.Count(s); got != count(s) {
			t.Fatalf("Count(%q) = %d, want %d", s, got, count(s))
		}
		for at := range len(edges) {
			if len(s) < 5 {
				try(s + edges[at:at+1])
			}
		}
	}
	try("")
}

// P4.2 and P1: a long numeral is gone through to its end.
func TestLongTexts(t *testing.T) {
	many := strings.Repeat("0123456789", 20000)
	long := "-1" + many + "." + many + "e-" + many
	for tail, want := range map[string]int{"": -1, ",": len(long), "e": len(long), ".0": len(long), many: -1, many + "-": len(long) + len(many)} {
		if got := numeral.Fault(long + tail); got != want || numeral.Is(long+tail) != (want == -1) {
			t.Errorf("with %.9q behind: Fault = %d, want %d", tail, got, want)
		}
		end := len(long + tail)
		if want >= 0 {
			end = want
		}
		if got := numeral.Count(long + tail); got != end {
			t.Errorf("with %.9q behind: Count = %d, want %d", tail, got, end)
		}
	}
	whole := len(many) + 1
	for tail, want := range map[string]int{".": whole + 1, "e": whole + 1, "E+": whole + 2} {
		s := "1" + many + tail
		if fault, n := numeral.Fault(s), numeral.Count(s); fault != want || n != whole {
			t.Errorf("with %q behind: Fault = %d, Count = %d, want %d, %d", tail, fault, n, want, whole)
		}
	}
}

// P2: no call changes what a later one answers.
func TestAnswersHangOnArgumentsAlone(t *testing.T) {
	for range 2 {
		for _, s := range begun {
			if numeral.Is(s) != form.MatchString(s) || numeral.Fault(s) != fault(s) || numeral.Count(s) != count(s) {
				t.Errorf("of %q: %v, %d, %d", s, numeral.Is(s), numeral.Fault(s), numeral.Count(s))
			}
		}
	}
}
