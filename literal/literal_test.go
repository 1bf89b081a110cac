package literal_test

import (
	"strings"
	"testing"

	"riffle/api"
	"riffle/literal"
)

// whole has the three words, and the kind of values that each is, by the chapter's words.
var whole = map[string]int{"true": api.Bool, "false": api.Bool, "null": api.Null}

// begun has all texts with which a word begins: none of them is the same for two words, but the empty one.
var begun = []string{
	"", "t", "tr", "tru", "true",
	"f", "fa", "fal", "fals", "false",
	"n", "nu", "nul", "null",
}

// answer is Step's by its definition, of a byte behind what was stepped through.
func answer(behind string, c byte) int {
	s := behind + string([]byte{c})
	for word := range whole {
		switch {
		case word == s:
			return 1
		case strings.HasPrefix(word, s):
			return 0
		}
	}
	return 2
}

// walked is a walk behind these bytes, none of which may be refused.
func walked(t *testing.T, s string) literal.Walk {
	t.Helper()
	var w literal.Walk
	for at := range len(s) {
		if got := w.Step(s[at]); got != answer(s[:at], s[at]) || got == literal.Bad {
			t.Fatalf("Step of byte %d of %q = %d", at, s, got)
		}
	}
	return w
}

// Other layers, and those who use the program, count on the numbers of the answers.
func TestAnswersAreNumberedAsTheChapterSays(t *testing.T) {
	if literal.Goes != 0 || literal.Done != 1 || literal.Bad != 2 {
		t.Errorf("Goes %d, Done %d, Bad %d", literal.Goes, literal.Done, literal.Bad)
	}
}

// P5.1: the chapter's example, and the other words, with what follows them.
func TestWordsByteByByte(t *testing.T) {
	for s, want := range map[string][]int{
		"truee":  {0, 0, 0, 1, 2},
		"falsee": {0, 0, 0, 0, 1, 2},
		"nulll":  {0, 0, 0, 1, 2},
	} {
		var w literal.Walk
		for at := range len(s) {
			if got := w.Step(s[at]); got != want[at] {
				t.Errorf("Step of byte %d of %q = %d, want %d", at, s, got, want[at])
			}
			stepped := s[:min(at+1, len(s)-1)]
			if got := w.Word(); got != stepped {
				t.Errorf("Word behind byte %d of %q = %q, want %q", at, s, got, stepped)
			}
		}
	}
}

// P5.1: each of all 256 bytes behind each beginning, with Word behind it.
func TestStepOfEachByteBehindEachBeginning(t *testing.T) {
	for _, s := range begun {
		for c := range 256 {
			w, want := walked(t, s), answer(s, byte(c))
			if got := w.Step(byte(c)); got != want {
				t.Errorf("behind %q: Step(%#x) = %d, want %d", s, c, got, want)
			}
			stepped := s
			if want != literal.Bad {
				stepped += string([]byte{byte(c)})
			}
			if got := w.Word(); got != stepped {
				t.Errorf("behind %q, Step(%#x): Word = %q, want %q", s, c, got, stepped)
			}
		}
	}
}

// P5.1: at each place the bytes that go on, written out: one alone, but at the beginning.
func TestBytesThatGoOn(t *testing.T) {
	for s, want := range map[string]string{
		"": "fnt", "t": "r", "tr": "u", "tru": "e", "true": "",
		"f": "a", "fa": "l", "fal": "s", "fals": "e", "false": "",
		"n": "u", "nu": "l", "nul": "l", "null": "",
	} {
		goes := ""
		for c := range 256 {
			if w := walked(t, s); w.Step(byte(c)) != literal.Bad {
				goes += string([]byte{byte(c)})
			}
		}
		if goes != want {
			t.Errorf("behind %q go on %q, want %q", s, goes, want)
		}
	}
}

// P5.1: the zero value is ahead of a word: nothing was stepped through.
func TestWalkAtTheBeginning(t *testing.T) {
	for c := range 256 {
		var w literal.Walk
		if got := w.Word(); got != "" {
			t.Fatalf("Word ahead of all = %q", got)
		}
		want, word := literal.Bad, ""
		if strings.IndexByte("tfn", byte(c)) >= 0 {
			want, word = literal.Goes, string([]byte{byte(c)})
		}
		if got := w.Step(byte(c)); got != want || w.Word() != word {
			t.Errorf("Step(%#x) = %d, want %d; Word = %q, want %q", c, got, want, w.Word(), word)
		}
	}
}

// P5.1: wrong letters, other cases, and one word's bytes in another one.
func TestWrongBytes(t *testing.T) {
	for _, s := range []string{
		"T", "F", "N", "TRUE", "True", "tRue", "trUe", "truE", "fAlse", "falsE", "nUll", "nulL",
		"x", "0", "-", "\"", " true", "\ttrue", "\x00", "\x7f", "\xff", "r", "a", "u", "e", "l", "s",
		"tt", "ta", "tu", "te", "tr\x00", "tr ", "tre", "tra", "trule", "tru\xff", "tru,",
		"ff", "fr", "fu", "fale", "falls", "fals ", "fals]",
		"nn", "nr", "na", "nil", "nule", "nul,", "nu\x80",
		"true ", "truet", "truetrue", "false,", "falsef", "null]", "nulln", "nulls", "null\x00",
	} {
		var w literal.Walk
		at := 0
		for at < len(s) && w.Step(s[at]) != literal.Bad {
			at++
		}
		if at == len(s) {
			t.Errorf("nothing of %q is Bad", s)
			continue
		}
		want := 0
		for answer(s[:want], s[want]) != literal.Bad {
			want++
		}
		if at != want || w.Word() != s[:want] {
			t.Errorf("%q: Bad at %d, Word = %q; want %d, %q", s, at, w.Word(), want, s[:want])
		}
	}
}

// P5.1: a Step that is answered Bad does nothing: whatever byte comes behind it is answered as if it hadn't been.
func TestRefusedByteChangesNothing(t *testing.T) {
	for _, s := range begun {
		var want [256]int
		for c := range want {
			want[c] = answer(s, byte(c))
		}
		for pair := range 256 * 256 {
			refused, c := byte(pair/256), byte(pair%256)
			w := walked(t, s)
			if want[refused] != literal.Bad || w.Step(refused) != literal.Bad {
				continue
			}
			if got := w.Step(c); got != want[c] {
				t.Fatalf("behind %q and the refused %#x: Step(%#x) = %d, want %d", s, refused, c, got, want[c])
			}
		}
	}
}

// P5.1: a word with refused bytes at each of its places is walked as one without them.
func TestWalkGoesOnBehindRefusedBytes(t *testing.T) {
	for word := range whole {
		var w literal.Walk
		for at := range len(word) {
			for c := range 256 {
				if byte(c) == word[at] || at == 0 && strings.IndexByte("tfn", byte(c)) >= 0 {
					continue
				}
				if got := w.Step(byte(c)); got != literal.Bad || w.Word() != word[:at] {
					t.Fatalf("behind %q: Step(%#x) = %d, Word = %q", word[:at], c, got, w.Word())
				}
			}
			if got := w.Step(word[at]); got != answer(word[:at], word[at]) || w.Word() != word[:at+1] {
				t.Fatalf("behind %q: Step(%q) = %d, Word = %q", word[:at], word[at], got, w.Word())
			}
		}
	}
}

// P5.1: behind a word that was Done each byte is Bad, again and again, a word's first one too.
func TestStepBehindTheEnd(t *testing.T) {
	for word := range whole {
		w := walked(t, word)
		for range 2 {
			for c := range 256 {
				if got := w.Step(byte(c)); got != literal.Bad || w.Word() != word {
					t.Fatalf("behind %q: Step(%#x) = %d, Word = %q", word, c, got, w.Word())
				}
			}
		}
	}
}

// P2: one walk has nothing to do with another one, nor a copy with what it was taken of, nor Word with what comes behind it.
func TestWalksStandAlone(t *testing.T) {
	one, other := walked(t, "fal"), walked(t, "n")
	copied, word := one, one.Word()
	if one.Step('s') != literal.Goes || one.Step('e') != literal.Done || one.Word() != "false" {
		t.Errorf("one's Word = %q", one.Word())
	}
	if word != "fal" || copied.Word() != "fal" || copied.Step('e') != literal.Bad || copied.Step('s') != literal.Goes {
		t.Errorf("the copy was moved: Word = %q, of it %q", word, copied.Word())
	}
	if other.Word() != "n" || other.Step('a') != literal.Bad || other.Step('u') != literal.Goes {
		t.Errorf("the other one was moved: Word = %q", other.Word())
	}
}

// P5.2: the three words, and none but them: beginnings, what has something behind it or ahead, other cases.
func TestKind(t *testing.T) {
	for s, want := range whole {
		if kind, ok := literal.Kind(s); kind != want || !ok {
			t.Errorf("Kind(%q) = %d, %v, want %d, true", s, kind, ok, want)
		}
		other := []string{s + s, s + " ", " " + s, s + "\x00", "\x00" + s, s + s[:1], s[1:], `"` + s + `"`, s + "\xff"}
		for at := range len(s) {
			other = append(other, s[:at], s[:at]+strings.ToUpper(s[at:at+1])+s[at+1:], s[:at]+s[at+1:])
			for c := range 256 {
				if byte(c) != s[at] {
					other = append(other, s[:at]+string([]byte{byte(c)})+s[at+1:])
				}
			}
		}
		for c := range 256 {
			other = append(other, s+string([]byte{byte(c)}))
		}
		for _, x := range other {
			if kind, ok := literal.Kind(x); kind != 0 || ok {
				t.Errorf("Kind(%q) = %d, %v, want 0, false", x, kind, ok)
			}
		}
	}
	for _, s := range []string{
		"", "TRUE", "True", "FALSE", "False", "NULL", "Null", "nil", "undefined", "NaN", "yes", "no", "on", "0", "1", "-", "[]", "{}",
		"truefalse", "nulltrue", "falsenull", "tru\u00e9", "\uff54rue", "ｎｕｌｌ", "\xff", "\x00\x00\x00\x00",
	} {
		if kind, ok := literal.Kind(s); kind != 0 || ok {
			t.Errorf("Kind(%q) = %d, %v, want 0, false", s, kind, ok)
		}
	}
}

// P5.2: the kinds are api's own numbers.
func TestKindIsNumberedAsTheDocumentSays(t *testing.T) {
	for s, want := range map[string]int{"null": 0, "true": 1, "false": 1} {
		if kind, ok := literal.Kind(s); kind != want || !ok {
			t.Errorf("Kind(%q) = %d, %v, want %d, true", s, kind, ok, want)
		}
	}
}

// P1: long texts are gone through to their end, and a walk takes as many wrong bytes as come.
func TestLongTexts(t *testing.T) {
	for word := range whole {
		long := strings.Repeat(word, 100000)
		if kind, ok := literal.Kind(long); kind != 0 || ok {
			t.Errorf("Kind of %q many times = %d, %v", word, kind, ok)
		}
		var w literal.Walk
		for at := range len(long) {
			want := literal.Bad
			if at < len(word) {
				want = answer(word[:at], word[at])
			}
			if got := w.Step(long[at]); got != want {
				t.Fatalf("Step of byte %d of %q many times = %d, want %d", at, word, got, want)
			}
		}
		if w.Word() != word {
			t.Errorf("Word = %q, want %q", w.Word(), word)
		}
	}
}

// P2: no call changes what a later one answers.
func TestAnswersHangOnArgumentsAlone(t *testing.T) {
	for range 2 {
		for _, s := range begun {
			w := walked(t, s)
			want, is := whole[s]
			for range 2 {
				if kind, ok := literal.Kind(s); kind != want || ok != is || w.Word() != s {
					t.Errorf("of %q: Kind = %d, %v, Word = %q", s, kind, ok, w.Word())
				}
			}
		}
	}
}
