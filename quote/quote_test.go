package quote_test

import (
	"encoding/json"
	"fmt"
	"regexp"
	"strings"
	"testing"
	"unicode/utf16"
	"unicode/utf8"

	"riffle/api"
	"riffle/quote"
)

// one is a text of what stands for one sign in a string, by the chapter's words; bytes that
// are no sign of UTF-8 are told by utf8 beside it.
var one = regexp.MustCompile(`\A(?:` +
	`\\["\\/bfnrt]` +
	`|\\u(?:[0-9a-cA-CefEF][0-9a-fA-F]|[dD][0-7])[0-9a-fA-F]{2}` +
	`|\\u[dD][89abAB][0-9a-fA-F]{2}\\u[dD][c-fC-F][0-9a-fA-F]{2}` +
	`)`)

// unit is the first thing of a text that stands for one sign: how long it is, and what it
// stands for; 0, if the text begins with none that is whole.
func unit(s string) (n int, means string) {
	if s == "" {
		return 0, ""
	}
	if s[0] != '\\' {
		r, n := utf8.DecodeRuneInString(s)
		if r == utf8.RuneError && n <= 1 || r < 32 || r == '"' {
			return 0, ""
		}
		return n, s[:n]
	}
	escape := one.FindString(s)
	if len(escape) == 2 {
		for i, letter := range `"\/bfnrt` {
			if escape[1] == byte(letter) {
				return 2, string([]byte{34, 92, 47, 8, 12, 10, 13, 9}[i])
			}
		}
	}
	var numbers []uint16
	for at := 0; at < len(escape); at += 6 {
		var number uint16
		fmt.Sscanf(escape[at+2:at+6], "%x", &number)
		numbers = append(numbers, number)
	}
	return len(escape), string(utf16.Decode(numbers))
}

// parted is what a text's whole units stand for, and what is left behind them.
func parted(s string) (means, rest string) {
	for {
		n, sign := unit(s)
		if n == 0 {
			return means, s
		}
		means, s = means+sign, s[n:]
	}
}

// endings has bytes by which whatever begins a unit becomes a whole one.
var endings = []string{
	"", "n", "u0000", "0000", "000", "00", "0", `00\uDC00`, `0\uDC00`, `\uDC00`, "uDC00", "DC00", "C00",
	"\x80", "\xa0", "\x80\x80", "\xa0\x80", "\x90\x80\x80", "\x80\x80\x80",
}

// goesOn tells whether some string begins with a mark and a text that has no last mark.
func goesOn(s string) bool {
	_, rest := parted(s)
	if rest == "" {
		return true
	}
	for _, ending := range endings {
		if n, _ := unit(rest + ending); n == len(rest)+len(ending) {
			return true
		}
	}
	return false
}

// answer is Step's by its definition, of a byte behind what was stepped through, which has no last mark.
func answer(behind string, c byte) int {
	_, rest := parted(behind)
	switch {
	case rest == "" && c == '"':
		return api.Accept
	case goesOn(behind + string([]byte{c})):
		return api.Going
	case rest == "" && c < 32:
		return api.BadSign
	case rest == "" || rest[0] != '\\':
		return api.BadUTF
	case len(rest) >= 6 && len(rest) < 10: // backslash, u and two digits of a pair's second one
		return api.BadPair
	case len(rest) == 3 && strings.IndexByte("dD", rest[2]) >= 0 && strings.IndexByte("cdefCDEF", c) >= 0:
		return api.BadPair
	}
	return api.BadEscape
}

// walked is a walk behind these bytes, none of which may be refused or end the string.
func walked(t *testing.T, s string) quote.Walk {
	t.Helper()
	var w quote.Walk
	for at := range len(s) {
		if got := w.Step(s[at]); got != api.Going {
			t.Fatalf("Step of byte %d of %q = %d", at, s, got)
		}
	}
	return w
}

// begun has texts with which strings go on, of each kind of place that there is in one.
var begun = []string{
	"", "a", "\x7f", "/", "abc", "\u00e9", "\uffff", "\U0010ffff",
	"\xc2", "\xdf", "\xe0", "\xe1", "\xed", "\xef", "\xe0\xa0", "\xe1\x80", "\xed\x9f", "\xef\xbf", // within signs
	"\xf0", "\xf1", "\xf4", "\xf0\x90", "\xf3\x80", "\xf4\x8f", "\xf0\x90\x80", "\xf4\x8f\xbf", "a\xe2\x82",
	`\`, `a\`, "\u00e9\\", // within escapes
	`\n`, `\"`, `\\`, `\/`, `\u0041`, `\ud7ff`, `\uE000`, `\uD800\uDC00`,
	`\u`, `\u0`, `\u9`, `\uc`, `\ud`, `\uD`, `\ue`, `\uF`,
	`\u00`, `\ud0`, `\uD7`, `\ud8`, `\uDb`, `\udB`, `\ue0`, `\uff`, `\ucd`,
	`\u000`, `\ud7f`, `\ud80`, `\uDbf`, `\uE00`,
	`\ud800`, `\uDBFF`, `\uda5C`, `x\ud800`, // within pairs
	`\ud800\`, `\uDBFF\`,
	`\ud800\u`, `\uDBFF\u`,
	`\ud800\ud`, `\uDBFF\uD`,
	`\ud800\udc`, `\uDBFF\uDf`, `\uDBFF\uDE`,
	`\ud800\udc0`, `\uDBFF\uDFf`,
	`\n\ud800\udc00\ud800`, `\u0000\ud`, "\\ud83d\\ude00\xe2", // behind others
}

// P6.1: each of all 256 bytes behind each beginning, with Done and Text behind it.
func TestStepOfEachByteBehindEachBeginning(t *testing.T) {
	for _, s := range begun {
		for c := range 256 {
			w, want := walked(t, s), answer(s, byte(c))
			if got := w.Step(byte(c)); got != want {
				t.Errorf("behind %q: Step(%#x) = %d, want %d", s, c, got, want)
			}
			stepped := s
			if want == api.Going {
				stepped += string([]byte{byte(c)})
			}
			means, _ := parted(stepped)
			if got := w.Text(); got != means || w.Done() != (want == api.Accept) {
				t.Errorf("behind %q, Step(%#x): Text = %q, Done %v, want %q", s, c, got, w.Done(), means)
			}
		}
	}
}

// P6.1: all texts of up to four bytes of those that stand at an edge, behind each kind of place.
func TestShortTexts(t *testing.T) {
	const edges = "\x00\x1f \"/0789abcDdefFgnu\\\x7f\x80\x8f\x9f\xbf\xc1\xc2\xe0\xed\xf4\xf5\xff"
	var try func(s string, w quote.Walk, left int)
	try = func(s string, w quote.Walk, left int) {
		for i := range len(edges) {
			after, want := w, answer(s, edges[i])
			if got := after.Step(edges[i]); got != want {
				t.Fatalf("behind %q: Step(%#x) = %d, want %d", s, edges[i], got, want)
			}
			if left > 1 && want == api.Going {
				try(s+edges[i:i+1], after, left-1)
			}
		}
	}
	for _, s := range begun {
		try(s, walked(t, s), 2)
	}
	for _, s := range []string{"", `\u`, `\ud8`, `\ud800`, `\ud800\u`} {
		try(s, walked(t, s), 4)
	}
}

// P6.1: the zero value is right behind the first mark: nothing was stepped through.
func TestWalkAtTheBeginning(t *testing.T) {
	var w quote.Walk
	if w.Done() || w.Text() != "" {
		t.Errorf("Done %v, Text %q", w.Done(), w.Text())
	}
	if got := w.Step('"'); got != api.Accept || !w.Done() || w.Text() != "" {
		t.Errorf("Step of a mark = %d, Done %v, Text %q", got, w.Done(), w.Text())
	}
}

// P6.1: what each escape of one letter stands for; no other letter makes one.
func TestEscapesOfOneLetter(t *testing.T) {
	want := map[byte]string{'"': "\x22", '\\': "\x5c", '/': "\x2f", 'b': "\x08", 'f': "\x0c", 'n': "\x0a", 'r': "\x0d", 't': "\x09"}
	for c := range 256 {
		w := walked(t, `x\`)
		got := w.Step(byte(c))
		sign, is := want[byte(c)]
		switch {
		case is && (got != api.Going || w.Text() != "x"+sign):
			t.Errorf("behind a backslash %#x: %d, Text %q", c, got, w.Text())
		case !is && c != 'u' && (got != api.BadEscape || w.Text() != "x"):
			t.Errorf("behind a backslash %#x: %d, Text %q", c, got, w.Text())
		case w.Done():
			t.Errorf("behind a backslash %#x: Done", c)
		}
	}
}

// read is what Read answers, to be held against others.
type read struct {
	text    string
	n, kind int
}

// tryRead holds Read of each text against what it should answer.
func tryRead(t *testing.T, want map[string]read) {
	t.Helper()
	for s, x := range want {
		text, n, kind := quote.Read(s)
		if got := (read{text, n, kind}); got != x {
			t.Errorf("Read(%q) = %+v, want %+v", s, got, x)
		}
	}
}

// P6.1, P6.2: escapes of four digits around those of pairs, with digits of both cases.
func TestEscapesOfFourDigits(t *testing.T) {
	tryRead(t, map[string]read{
		`\u0000"`:       {"\x00", 7, api.Accept},
		`\u001f"`:       {"\x1f", 7, api.Accept},
		`\u0022\u005C"`: {`"\`, 13, api.Accept}, // what these stand for neither ends nor escapes
		`\u00e9\u00E9"`: {"\u00e9\u00e9", 13, api.Accept},
		`\u07ff\u0800"`: {"\u07ff\u0800", 13, api.Accept},
		`\uD7FF\ud7ff"`: {"\ud7ff\ud7ff", 13, api.Accept},
		`\uD800"`:       {"", 6, api.BadPair},
		`\ud800"`:       {"", 6, api.BadPair},
		`\uDBFF"`:       {"", 6, api.BadPair},
		`\udbff"`:       {"", 6, api.BadPair},
		`\uDC00"`:       {"", 3, api.BadPair},
		`\udc00"`:       {"", 3, api.BadPair},
		`\uDFFF"`:       {"", 3, api.BadPair},
		`\udfff"`:       {"", 3, api.BadPair},
		`\uE000\ue000"`: {"\ue000\ue000", 13, api.Accept},
		`\uFFFF\uffff"`: {"\uffff\uffff", 13, api.Accept},
		`\uaBcD\uAbCd"`: {"\uabcd\uabcd", 13, api.Accept},
		`\ufffd\uFFFE"`: {"\ufffd\ufffe", 13, api.Accept},
		`\U0041"`:       {"", 1, api.BadEscape}, // the u is a small one
		`\u00411"`:      {"A1", 8, api.Accept},  // four digits, and no more
	})
}

// P6.1: each number of four digits, in small and in capital digits, alone and ahead of each kind of number.
func TestEachNumberOfFourDigits(t *testing.T) {
	for number := range 0x10000 {
		for _, form := range []string{`\u%04x`, `\u%04X`} {
			escape := fmt.Sprintf(form, number)
			want := read{string(rune(number)), 7, api.Accept}
			behind := want.text
			switch {
			case number >= 0xD800 && number <= 0xDBFF:
				want, behind = read{"", 6, api.BadPair}, string(utf16.DecodeRune(rune(number), 0xDEAD))
			case number >= 0xDC00 && number <= 0xDFFF:
				want = read{"", 3, api.BadPair}
			}
			text, n, kind := quote.Read(escape + `"`)
			if got := (read{text, n, kind}); got != want {
				t.Fatalf("Read of %s = %+v, want %+v", escape, got, want)
			}
			if number < 0xD800 || number > 0xDBFF {
				continue
			}
			text, n, kind = quote.Read(escape + `\uDeaD"`)
			if got := (read{text, n, kind}); got != (read{behind, 13, api.Accept}) {
				t.Fatalf("Read of %s with a second one = %+v, want %q", escape, got, behind)
			}
		}
	}
}

// P6.1: pairs at their edges, and each second one.
func TestPairs(t *testing.T) {
	tryRead(t, map[string]read{
		`\uD800\uDC00"`:             {"\U00010000", 13, api.Accept},
		`\ud800\udfff"`:             {"\U000103ff", 13, api.Accept},
		`\uDBFF\uDC00"`:             {"\U0010fc00", 13, api.Accept},
		`\udbff\udfff"`:             {"\U0010ffff", 13, api.Accept},
		`\ud83D\uDe00"`:             {"\U0001f600", 13, api.Accept},
		`\ud83d\ude00\uD83D\uDE01"`: {"\U0001f600\U0001f601", 25, api.Accept},
		`\ud83d\ude00\ude00"`:       {"", 15, api.BadPair}, // behind a pair that is whole stands no second one
		`a\ud83d\ude00\n"`:          {"a\U0001f600\n", 16, api.Accept},
	})
	for second := 0xDC00; second <= 0xDFFF; second++ {
		want := string(utf16.DecodeRune(0xD9AB, rune(second)))
		if text, _, kind := quote.Read(fmt.Sprintf(`\uD9ab\u%04x"`, second)); text != want || kind != api.Accept {
			t.Fatalf("Read of the second one %#x = %q, %d, want %q", second, text, kind, want)
		}
	}
}

// P6.1: each byte of a pair at which it may break, whatever the byte is.
func TestBrokenPairs(t *testing.T) {
	const odd = "x\"/\n\x00\x1f\x80\xc3\xe2\xff GgU"
	for _, first := range []string{`\ud800`, `\uD83D`, `\uDbFf`} {
		for _, x := range []struct {
			behind, wrong string
			kind          int
		}{
			{``, odd + "u0dn", api.BadPair},
			{`\`, odd + "\\0dnbfrt", api.BadPair},
			{`\u`, odd + "\\u0123456789abcefABCEF", api.BadPair},
			{`\ud`, odd + "\\u0123456789abABn", api.BadPair},
			{`\uD`, odd + "\\u0123456789abABn", api.BadPair},
			{`\udc`, odd + "\\un", api.BadEscape},
			{`\uDF`, odd + "\\un", api.BadEscape},
			{`\udc0`, odd + "\\un", api.BadEscape},
			{`\uDFf`, odd + "\\un", api.BadEscape},
		} {
			for at := range len(x.wrong) {
				s := "a" + first + x.behind
				tryRead(t, map[string]read{s + x.wrong[at:at+1] + `"`: {"", len(s), x.kind}})
			}
		}
	}
}

// P6.1: an escape that isn't one of a pair, at each of its bytes, whatever the byte is.
func TestBrokenEscapes(t *testing.T) {
	const odd = "x\n\x00\x1f\x80\xc3\xe2\xff Gg:@`"
	for behind, wrong := range map[string]string{
		`\`: odd + "0'acdevBFNRT", `\u`: odd + "\"\\/un-+", `\u0`: odd + "\"\\/un", `\ud`: odd + "\"\\/un", `\uD`: odd + "\"\\/un",
		`\u00`: odd + "\"\\/un", `\ud8`: odd + "\"\\/un", `\u000`: odd + "\"\\/un", `\ud80`: odd + "\"\\/un", `\udbf`: odd + "\"\\/un",
	} {
		for at := range len(wrong) {
			tryRead(t, map[string]read{"a" + behind + wrong[at:at+1] + `"`: {"", len(behind) + 1, api.BadEscape}})
		}
	}
	for _, c := range "cdefCDEF" {
		for _, d := range "dD" {
			tryRead(t, map[string]read{`a\u` + string(d) + string(c) + `00"`: {"", 4, api.BadPair}})
		}
	}
}

// P6.1: signs of UTF-8 of each length, broken at each of their bytes, and bytes that begin none.
func TestSigns(t *testing.T) {
	for _, sign := range []string{
		" ", "!", "#", "[", "]", "\x7f", "\u0080", "\u07ff", "\u0800", "\ud7ff", "\ue000", "\ufffd", "\uffff", "\U00010000", "\U0010ffff",
	} {
		tryRead(t, map[string]read{sign + `"`: {sign, len(sign) + 1, api.Accept}, sign + "x" + sign + `"`: {sign + "x" + sign, 2*len(sign) + 2, api.Accept}})
		for at := 1; at < len(sign); at++ {
			for _, wrong := range []string{"\"", "\\", "a", " ", "\n", "\x00", "\x1f", "\x7f", "\xc0", "\xc3", "\xe2", "\xf0", "\xff"} {
				tryRead(t, map[string]read{"a" + sign[:at] + wrong + `"`: {"", at + 1, api.BadUTF}})
			}
		}
	}
	for c := 0x80; c <= 0xFF; c++ {
		if c < 0xC2 || c > 0xF4 {
			tryRead(t, map[string]read{"a" + string([]byte{byte(c)}) + `"`: {"", 1, api.BadUTF}})
		}
	}
	for s, at := range map[string]int{
		"\xe0\x9f": 1, "\xed\xa0": 1, "\xed\xbf\xbf": 1, "\xf0\x8f": 1, "\xf4\x90": 1, "\xf5\x80": 0, "\xc0\x80": 0, "\xc1\xbf": 0,
	} {
		tryRead(t, map[string]read{s + `"`: {"", at, api.BadUTF}})
	}
}

// P6.1: a byte below 32 is of another fault elsewhere, within a sign, within an escape, and within a pair.
func TestBytesBelowTheLeastSign(t *testing.T) {
	for c := range 32 {
		low := string([]byte{byte(c)})
		tryRead(t, map[string]read{
			low + `"`:                 {"", 0, api.BadSign},
			"a" + low:                 {"", 1, api.BadSign},
			`\n` + low:                {"", 2, api.BadSign},
			"\u20ac" + low:            {"", 3, api.BadSign},
			`\u0041` + low:            {"", 6, api.BadSign},
			`\ud83d\ude00` + low:      {"", 12, api.BadSign},
			"\xc3" + low:              {"", 1, api.BadUTF},
			"\xe2\x82" + low:          {"", 2, api.BadUTF},
			"\xf0\x9f\x98" + low:      {"", 3, api.BadUTF},
			`\` + low:                 {"", 1, api.BadEscape},
			`\u` + low:                {"", 2, api.BadEscape},
			`\ud` + low:               {"", 3, api.BadEscape},
			`\u12` + low:              {"", 4, api.BadEscape},
			`\u123` + low:             {"", 5, api.BadEscape},
			`\ud83d` + low:            {"", 6, api.BadPair},
			`\ud83d\` + low:           {"", 7, api.BadPair},
			`\ud83d\u` + low:          {"", 8, api.BadPair},
			`\ud83d\ud` + low:         {"", 9, api.BadPair},
			`\ud83d\ude` + low + "00": {"", 10, api.BadEscape},
			`\ud83d\ude0` + low:       {"", 11, api.BadEscape},
		})
	}
}

// P6.1: behind the end each byte is Misuse, again and again, and Text and Done stay.
func TestStepBehindTheEnd(t *testing.T) {
	for s, want := range map[string]string{"": "", "ab": "ab", `\ud83d\ude00`: "\U0001f600", `\"`: `"`, "\u00e9": "\u00e9"} {
		w := walked(t, s)
		if w.Done() || w.Step('"') != api.Accept {
			t.Errorf("behind %q: no end", s)
		}
		for range 2 {
			for c := range 256 {
				if got := w.Step(byte(c)); got != api.Misuse || !w.Done() || w.Text() != want {
					t.Fatalf("behind the end of %q: Step(%#x) = %d, Done %v, Text %q", s, c, got, w.Done(), w.Text())
				}
			}
		}
	}
}

// P6.1: a Step that is answered with a fault does nothing: whatever byte comes behind it is answered as if it hadn't been.
func TestRefusedByteChangesNothing(t *testing.T) {
	for _, s := range begun {
		var want [256]int
		for c := range want {
			want[c] = answer(s, byte(c))
		}
		fresh := walked(t, s)
		means, w := fresh.Text(), fresh
		for pair := range 256 * 256 {
			refused, c := byte(pair/256), byte(pair%256)
			if want[refused] < api.BadUTF {
				continue
			}
			if c == 0 {
				w = fresh
				if got := w.Step(refused); got != want[refused] || w.Text() != means || w.Done() {
					t.Fatalf("behind %q: Step(%#x) = %d, Text %q", s, refused, got, w.Text())
				}
			}
			after := w
			if got := after.Step(c); got != want[c] {
				t.Fatalf("behind %q and the refused %#x: Step(%#x) = %d, want %d", s, refused, c, got, want[c])
			}
		}
	}
}

// P6.1: a string with refused bytes at each of its places is walked as one without them.
func TestWalkGoesOnBehindRefusedBytes(t *testing.T) {
	const s = "a\u00e9\u20ac\U0001f600\\n\\u00e9\\uD83d\\uDe01\\/\\ud7FF z"
	var w quote.Walk
	for at := range len(s) {
		for c := range 256 {
			if want := answer(s[:at], byte(c)); want >= api.BadUTF && w.Step(byte(c)) != want {
				t.Fatalf("behind %q: Step(%#x) isn't %d", s[:at], c, want)
			}
		}
		if means, _ := parted(s[:at]); w.Text() != means {
			t.Fatalf("behind %q: Text = %q, want %q", s[:at], w.Text(), means)
		}
		if got := w.Step(s[at]); got != api.Going {
			t.Fatalf("Step of byte %d = %d", at, got)
		}
	}
	if got := w.Step('"'); got != api.Accept || w.Text() != "a\u00e9\u20ac\U0001f600\n\u00e9\U0001f601/\ud7ff z" {
		t.Errorf("at the end %d, Text %q", got, w.Text())
	}
}

// P6.1: Text byte by byte, in the midst of signs, escapes and pairs.
func TestTextByteByByte(t *testing.T) {
	const sign = "\u20ac"
	for _, x := range []struct {
		s    string
		want []string
	}{
		{"ab", []string{"a", "ab"}},
		{"x" + sign + "y", []string{"x", "x", "x", "x" + sign, "x" + sign + "y"}},
		{"\U0001f600", []string{"", "", "", "\U0001f600"}},
		{`a\tb`, []string{"a", "a", "a\t", "a\tb"}},
		{`\u0041b`, []string{"", "", "", "", "", "A", "Ab"}},
		{`a\ud83d\ude00b`, []string{
			"a", "a", "a", "a", "a", "a", "a", "a", "a", "a", "a", "a", "a\U0001f600", "a\U0001f600b",
		}},
	} {
		var w quote.Walk
		for at := range len(x.s) {
			if got := w.Step(x.s[at]); got != api.Going || w.Text() != x.want[at] || w.Done() {
				t.Errorf("behind %q: %d, Text %q, want %q", x.s[:at+1], got, w.Text(), x.want[at])
			}
		}
	}
}

// P2: one walk has nothing to do with another one, nor a copy with what it was taken of, wherever it is taken.
func TestWalksStandAlone(t *testing.T) {
	for n := range 300 {
		head := strings.Repeat("a", n)
		one := walked(t, head+`\ud83d`)
		copied := one
		ahead := one.Text()
		tails := map[*quote.Walk]string{&one: `\ude00bc`, &copied: `\ude01de`}
		for at := range len(`\ude00bc`) {
			for w, tail := range tails {
				if got := w.Step(tail[at]); got != api.Going {
					t.Fatalf("behind %d signs: Step of byte %d of %q = %d", n, at, tail, got)
				}
			}
		}
		if one.Text() != head+"\U0001f600bc" || copied.Text() != head+"\U0001f601de" || ahead != head {
			t.Fatalf("behind %d signs: %q, of the copy %q", n, one.Text(), copied.Text())
		}
		back := one
		one.Step('1')
		kept := one
		one = back
		one.Step('2')
		if kept.Text() != head+"\U0001f600bc1" || one.Text() != head+"\U0001f600bc2" {
			t.Fatalf("behind %d signs: %q, of the one kept %q", n, one.Text(), kept.Text())
		}
	}
}

// P6.2: ordinary texts, and what stands behind the last mark.
func TestRead(t *testing.T) {
	tryRead(t, map[string]read{
		`"`:                          {"", 1, api.Accept},
		`""`:                         {"", 1, api.Accept},
		`abc"`:                       {"abc", 4, api.Accept},
		`abc"def"`:                   {"abc", 4, api.Accept},
		"abc\"\x00\xff\\":            {"abc", 4, api.Accept},
		`a\n"`:                       {"a\n", 4, api.Accept}, // the chapter's examples
		`\ud83d\ude00"`:              {"\U0001f600", 13, api.Accept},
		`\ud83dx`:                    {"", 6, api.BadPair},
		`\udc`:                       {"", 3, api.BadPair},
		`\"\\\/\b\f\n\r\t" : 1`:      {"\"\\/\b\f\n\r\t", 17, api.Accept},
		`a/b"`:                       {"a/b", 4, api.Accept},
		`'"`:                         {"'", 2, api.Accept},
		"\u00e9\U0001f600\x7f\"rest": {"\u00e9\U0001f600\x7f", 8, api.Accept},
		`\\"`:                        {`\`, 3, api.Accept},
		`\\\""`:                      {`\"`, 5, api.Accept},
	})
}

// P6.2: beginnings of a string, up to each of its bytes, the empty one too.
func TestReadOfBeginnings(t *testing.T) {
	for _, s := range begun {
		for at := range len(s) + 1 {
			tryRead(t, map[string]read{s[:at]: {"", at, api.Truncated}})
		}
	}
}

// P6.2: each fault, with its place behind something that is right, and with whatever behind it.
func TestReadOfFaults(t *testing.T) {
	for s, want := range map[string][2]int{
		"\n": {0, api.BadSign}, "\x00": {0, api.BadSign}, "\x1f": {0, api.BadSign},
		"\xff": {0, api.BadUTF}, "\x80": {0, api.BadUTF}, "\xe2\"": {1, api.BadUTF}, "\xe2\x82\n": {2, api.BadUTF}, "\xed\xa0\x80": {1, api.BadUTF},
		`\a`: {1, api.BadEscape}, "\\\n": {1, api.BadEscape}, `\u"`: {2, api.BadEscape}, `\u12g`: {4, api.BadEscape}, `\u123 `: {5, api.BadEscape}, `\udx`: {3, api.BadEscape},
		`\udc00`: {3, api.BadPair}, `\ud83d"`: {6, api.BadPair}, `\ud83d\n`: {7, api.BadPair}, `\ud83d\u0`: {8, api.BadPair}, `\ud83d\ud8`: {9, api.BadPair},
		`\ud83d\udcx`: {10, api.BadEscape}, `\ud83d\udc0x`: {11, api.BadEscape},
	} {
		for _, head := range []string{"", "abc", `\n`, "\u20ac", `\ud83d\ude00`, strings.Repeat("long ", 100)} {
			for _, tail := range []string{"", `"`, "\n\xff", `\u`} {
				tryRead(t, map[string]read{head + s + tail: {"", len(head) + want[0], want[1]}})
			}
		}
	}
}

// P6.2: against the library's reader of strings, where that finds them right.
func TestReadAgainstTheLibrary(t *testing.T) {
	pieces := []string{"a", "\u00e9", "\u20ac", "\U0001f600", `\"`, `\\`, `\/`, `\b`, `\f`, `\n`, `\r`, `\t`, `\u0000`, `\uD7ff`, `\ue000`, `\uD834\udd1E`}
	for i := range len(pieces) * len(pieces) * len(pieces) {
		s := pieces[i%16] + pieces[i/16%16] + pieces[i/256] + `"`
		var want string
		if err := json.Unmarshal([]byte(`"`+s), &want); err != nil {
			t.Fatal(s, err)
		}
		tryRead(t, map[string]read{s: {want, len(s), api.Accept}})
	}
}

// P6.3: all signs below 32, marks and backslashes, written out, and those just beside.
func TestPut(t *testing.T) {
	for s, want := range map[string]string{
		"": `""`, "abc": `"abc"`, "a/b": `"a/b"`, "'": `"'"`, " ": `" "`, "!#[]": `"!#[]"`, "\x7f": "\"\x7f\"",
		`"`: `"\""`, `\`: `"\\"`, `\"`: `"\\\""`, `\n`: `"\\n"`, "\"\\\b\f\n\r\t": `"\"\\\b\f\n\r\t"`,
		"\x00": `"\u0000"`, "\x01": `"\u0001"`, "\x02": `"\u0002"`, "\x03": `"\u0003"`, "\x04": `"\u0004"`, "\x05": `"\u0005"`, "\x06": `"\u0006"`, "\x07": `"\u0007"`,
		"\x08": `"\b"`, "\x09": `"\t"`, "\x0a": `"\n"`, "\x0b": `"\u000b"`, "\x0c": `"\f"`, "\x0d": `"\r"`, "\x0e": `"\u000e"`, "\x0f": `"\u000f"`,
		"\x10": `"\u0010"`, "\x11": `"\u0011"`, "\x12": `"\u0012"`, "\x13": `"\u0013"`, "\x14": `"\u0014"`, "\x15": `"\u0015"`, "\x16": `"\u0016"`, "\x17": `"\u0017"`,
		"\x18": `"\u0018"`, "\x19": `"\u0019"`, "\x1a": `"\u001a"`, "\x1b": `"\u001b"`, "\x1c": `"\u001c"`, "\x1d": `"\u001d"`, "\x1e": `"\u001e"`, "\x1f": `"\u001f"`,
		"a\x00b\nc": `"a\u0000b\nc"`, "\u00e9\u20ac\U0001f600": "\"\u00e9\u20ac\U0001f600\"", "\u2028\u2029<>&": "\"\u2028\u2029<>&\"",
	} {
		if got := quote.Put(s); got != want {
			t.Errorf("Put(%q) = %s, want %s", s, got, want)
		}
	}
}

// P6.3: where no sign of UTF-8 stands, each byte is the sign 0xFFFD.
func TestPutOfBytesThatAreNoSigns(t *testing.T) {
	for s, count := range map[string]int{
		"\x80": 1, "\xbf": 1, "\xc0": 1, "\xc1": 1, "\xc2": 1, "\xf4": 1, "\xf5": 1, "\xfe": 1, "\xff": 1, "\xff\xff": 2,
		"\xe2\x82": 2, "\xf0\x9f\x98": 3, "\xc0\x80": 2, "\xe0\x9f\xbf": 3, "\xed\xa0\x80": 3, "\xed\xbf\xbf": 3, "\xf0\x8f\xbf\xbf": 4, "\xf4\x90\x80\x80": 4,
		"\xed\xa0\xbd\xed\xb8\x80": 6, "\xc3\xc3": 2, "\xe2\xe2\x82": 3,
	} {
		strange := strings.Repeat("\ufffd", count)
		for _, x := range []struct{ head, tail string }{{"", ""}, {"a", "b"}, {"\u00e9", "\u20ac"}, {"\n", `"`}} {
			inner := func(s string) string { put := quote.Put(s); return put[1 : len(put)-1] }
			want := `"` + inner(x.head) + strange + inner(x.tail) + `"`
			if got := quote.Put(x.head + s + x.tail); got != want {
				t.Errorf("Put(%q) = %q, want %q", x.head+s+x.tail, got, want)
			}
		}
	}
	if got := quote.Put("\ufffd"); got != "\"\ufffd\"" {
		t.Errorf("Put of the sign itself = %q", got)
	}
}

// strangers is a text with the sign 0xFFFD for each byte where no sign stands.
func strangers(s string) string { return string([]rune(s)) }

// P6.3 and P6.2: what Put gives reads back as the text it was, strange bytes aside; and the library reads it so.
func TestPutReadsBack(t *testing.T) {
	texts := []string{"", `"`, `\`, `\u0041`, "\xff", "a\xe2\x82b", "\x00\x1f\x7f", strings.Repeat("\"\\\n\x01\u20ac\U0010ffff", 500)}
	for c := range 256 {
		for d := range 256 {
			texts = append(texts, string([]byte{byte(c), byte(d)}))
		}
	}
	for n := rune(0); n <= utf8.MaxRune; n += 7 {
		texts = append(texts, "a"+string(n)+"b")
	}
	for _, s := range texts {
		put := quote.Put(s)
		text, n, kind := quote.Read(put[1:])
		if got := (read{text, n, kind}); put[0] != '"' || got != (read{strangers(s), len(put) - 1, api.Accept}) {
			t.Fatalf("Put(%q) = %q reads back as %+v", s, put, got)
		}
		var library string
		if err := json.Unmarshal([]byte(put), &library); err != nil || library != strangers(s) {
			t.Fatalf("Put(%q) = %q: the library reads %q, %v", s, put, library, err)
		}
	}
}

// P1: long texts are gone through to their end, and in time that grows no faster than they do.
func TestLongTexts(t *testing.T) {
	long := strings.Repeat("a\u00e9\u20ac\U0001f600\n\"", 200000)
	put := quote.Put(long)
	text, n, kind := quote.Read(put[1:] + "rest")
	if text != long || n != len(put)-1 || kind != api.Accept {
		t.Errorf("%d bytes, %d, %d", len(text), n, kind)
	}
	for tail, want := range map[string]int{"": api.Truncated, "\x00": api.BadSign, "\xff": api.BadUTF, `\x`: api.BadEscape, `\ud800x`: api.BadPair} {
		if text, _, kind := quote.Read(put[1:len(put)-1] + tail); text != "" || kind != want {
			t.Errorf("with %q: %d bytes, %d, want %d", tail, len(text), kind, want)
		}
	}
}

// P6.1: signs are put together in the right order, whatever their number and how they stand.
func TestTextOfEachLength(t *testing.T) {
	pieces := []string{"a", "\u00e9", `\n`, `\ud83d\ude00`, "\u20ac", `\u0041`, "z"}
	var w quote.Walk
	want := ""
	for i := range 1000 {
		for _, c := range []byte(pieces[i%len(pieces)]) {
			if got := w.Step(c); got != api.Going {
				t.Fatalf("in piece %d: %d", i, got)
			}
		}
		_, sign := unit(pieces[i%len(pieces)])
		want += sign
		if got := w.Text(); got != want {
			t.Fatalf("behind %d pieces: Text = %q, want %q", i+1, got, want)
		}
	}
}

// P2: no call changes what a later one answers.
func TestAnswersHangOnArgumentsAlone(t *testing.T) {
	for range 2 {
		tryRead(t, map[string]read{`a\n"`: {"a\n", 4, api.Accept}, `\ud83dx`: {"", 6, api.BadPair}, "": {"", 0, api.Truncated}})
		if got := quote.Put("a\n\xff"); got != "\"a\\n\ufffd\"" {
			t.Errorf("Put = %q", got)
		}
		for _, s := range begun {
			w := walked(t, s)
			means, _ := parted(s)
			for range 2 {
				if w.Text() != means || w.Done() {
					t.Errorf("behind %q: Text %q, Done %v", s, w.Text(), w.Done())
				}
			}
		}
	}
}
