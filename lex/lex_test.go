package lex_test

import (
	"encoding/json"
	"regexp"
	"slices"
	"strings"
	"testing"

	"riffle/api"
	"riffle/lex"
	"riffle/octet"
	"riffle/quote"
)

// numeral is a number, and begunNumeral what a number begins with, by the words of layer 4;
// sticky is what can't stand right behind a number as something else.
var (
	numeral      = regexp.MustCompile(`\A-?(?:0|[1-9][0-9]*)(?:\.[0-9]+)?(?:[eE][+-]?[0-9]+)?\z`)
	begunNumeral = regexp.MustCompile(`\A(?:-?(?:0|[1-9][0-9]*)?|-?(?:0|[1-9][0-9]*)\.[0-9]*|-?(?:0|[1-9][0-9]*)(?:\.[0-9]+)?[eE](?:[+-]?[0-9]*))\z`)
	sticky       = regexp.MustCompile(`\A[0-9A-Za-z.+-]*`)
)

// one is the kinds of tokens of one byte.
var one = map[byte]int{'[': 2, ']': 3, '{': 4, '}': 5, ',': 6, ':': 7}

// first is the token with which a text begins, by the chapter's words: its kind, how many bytes
// it has, or has ahead of its fault, what its Text is, and that fault; Going, if it has none.
func first(s string) (kind, n int, text string, fault int) {
	switch {
	case s[0] == '"':
		text, n, fault = quote.Read(s[1:])
		if fault == api.Accept {
			fault = api.Going
		}
		return 8, n + 1, text, fault
	case strings.IndexByte("-0123456789", s[0]) >= 0:
		n, fault = firstNumber(s)
		return 9, n, s[:n], fault
	case strings.IndexByte("tfn", s[0]) >= 0:
		n, fault = firstWord(s)
		return 10, n, s[:n], fault
	}
	return one[s[0]], 1, "", api.Going
}

func firstNumber(s string) (n, fault int) {
	run := sticky.FindString(s)
	for n = range run {
		if !begunNumeral.MatchString(run[:n+1]) {
			return n, api.BadNumber
		}
	}
	switch {
	case numeral.MatchString(run):
		return len(run), api.Going
	case len(run) == len(s):
		return len(run), api.Truncated
	}
	return len(run), api.BadNumber
}

func firstWord(s string) (n, fault int) {
	word := map[byte]string{'t': "true", 'f': "false", 'n': "null"}[s[0]]
	for n < len(word) && n < len(s) && word[n] == s[n] {
		n++
	}
	switch n {
	case len(word):
		return n, api.Going
	case len(s):
		return n, api.Truncated
	}
	return n, api.BadWord
}

// answer is All's by its definition.
func answer(s string) (all []lex.Token, v api.Verdict) {
	at := 0
	for at < len(s) {
		if strings.IndexByte(" \t\n\r", s[at]) >= 0 {
			at++
			continue
		}
		kind, n, text, fault := first(s[at:])
		if kind == 0 {
			return all, api.Verdict{Kind: api.BadOrder, At: at}
		}
		if kind >= 8 {
			all = append(all, lex.Token{Kind: kind, Begun: true, From: at, To: at})
		}
		if fault != api.Going {
			return all, api.Verdict{Kind: fault, At: at + n}
		}
		all = append(all, lex.Token{Kind: kind, From: at, To: at + n, Text: text})
		at += n
	}
	return all, api.Verdict{Kind: api.Accept, At: len(s)}
}

// when is at which byte a token comes.
func when(t lex.Token) int {
	switch {
	case t.Begun || t.Kind < 8:
		return t.From
	case t.Kind == 9:
		return t.To
	}
	return t.To - 1
}

// due is those of some tokens that come at a byte.
func due(all []lex.Token, at int) (some []lex.Token) {
	for _, t := range all {
		if when(t) == at {
			some = append(some, t)
		}
	}
	return some
}

// carried is Carry by its definition, behind so many bytes that were stepped through.
func carried(all []lex.Token, behind int) int {
	for i, t := range all {
		ended := i+1 < len(all) && when(all[i+1]) < behind
		if t.Begun && t.From < behind && !ended {
			return behind - t.From
		}
	}
	return 0
}

// isLexer tells of a lexer what it has stepped through, and what it carries.
func isLexer(t *testing.T, l *lex.Lexer, s string, at, carry int) {
	t.Helper()
	if l.At() != at || l.Carry() != carry {
		t.Errorf("%q: At = %d, Carry = %d, want %d, %d", s, l.At(), l.Carry(), at, carry)
	}
}

// isOver tells whether a lexer is at its end, and stays there.
func isOver(t *testing.T, l *lex.Lexer, s string, at int) {
	t.Helper()
	for range 2 {
		isLexer(t, l, s, at, 0)
		for _, c := range "[ \"1-tf;e\x00" {
			if tokens, kind := l.Step(byte(c)); len(tokens) != 0 || kind != api.Misuse {
				t.Errorf("%q: Step(%q) at the end = %v, %d", s, c, tokens, kind)
			}
		}
		isLexer(t, l, s, at, 0)
		if tokens, kind := l.Close(); len(tokens) != 0 || kind != api.Misuse {
			t.Errorf("%q: Close at the end = %v, %d", s, tokens, kind)
		}
	}
	isLexer(t, l, s, at, 0)
}

// steps goes through a text byte by byte, and holds each answer against those by definition.
func steps(t *testing.T, s string) {
	t.Helper()
	want, v := answer(s)
	l := lex.New()
	for at := range len(s) {
		isLexer(t, l, s, at, carried(want, at))
		tokens, kind := l.Step(s[at])
		fault := api.Going
		if v.Kind != api.Truncated && v.Kind != api.Accept && v.At == at {
			fault = v.Kind
		}
		if !slices.Equal(tokens, due(want, at)) || kind != fault {
			t.Errorf("%q: Step of byte %d = %v, %d, want %v, %d", s, at, tokens, kind, due(want, at), fault)
		}
		if t.Failed() {
			t.FailNow()
		}
		if kind != api.Going {
			isOver(t, l, s, at)
			return
		}
	}
	isLexer(t, l, s, len(s), carried(want, len(s)))
	if tokens, kind := l.Close(); !slices.Equal(tokens, due(want, len(s))) || kind != v.Kind {
		t.Errorf("%q: Close = %v, %d, want %v, %d", s, tokens, kind, due(want, len(s)), v.Kind)
	}
	isOver(t, l, s, len(s))
}

// whole holds All of a text against its definition.
func whole(t *testing.T, s string) {
	t.Helper()
	want, v := answer(s)
	if got, x := lex.All([]byte(s)); !slices.Equal(got, want) || x != v {
		t.Fatalf("All(%q) = %v, %v, want %v, %v", s, got, x, want, v)
	}
}

// stepped is a lexer behind a text in which there is no fault, and the tokens so far.
func stepped(t *testing.T, s string) (*lex.Lexer, []lex.Token) {
	t.Helper()
	l := lex.New()
	var all []lex.Token
	for at := range len(s) {
		tokens, kind := l.Step(s[at])
		if kind != api.Going {
			t.Fatalf("Step of byte %d of %q = %d", at, s, kind)
		}
		all = append(all, tokens...)
	}
	return l, all
}

// Short names for what tokens are told by.
func begun(kind, at int) lex.Token { return lex.Token{Kind: kind, Begun: true, From: at, To: at} }

func ended(kind, from, to int, text string) lex.Token {
	return lex.Token{Kind: kind, From: from, To: to, Text: text}
}

func single(kind, at int) lex.Token { return lex.Token{Kind: kind, From: at, To: at + 1} }

func verdict(kind, at int) api.Verdict { return api.Verdict{Kind: kind, At: at} }

// within has texts without a fault, of each kind of place at which a lexer may be behind them.
var within = []string{
	"", " ", "\t\n\r ", "[", "]", "{", "}", ",", ":", "[] ", // outside of tokens
	`""`, `"a"`, `"\n" `, "true", "false", "null", "null\n", "1 ", "-0.5e7]",
	`"`, `"a`, `"ab`, "\"\u00e9", "\"\xc3", "\"\xe2\x82", "\"\xf0\x9f\x98", // within strings
	`"\`, `"\n`, `"\u`, `"\u0`, `"\ud`, `"\u00`, `"\u004`, `"\u0041`,
	`"\ud8`, `"\ud83d`, `"\ud83d\`, `"\ud83d\u`, `"\ud83d\ud`, `"\ud83d\ude`, `"\ud83d\ude0`, `"\ud83d\ude00`,
	"-", "0", "-0", "1", "-12", "1.", "0.5", "1e", "1E+", "1e-", "0.5e7", "-1.50E-07", // within numbers
	"t", "tr", "tru", "f", "fa", "fal", "fals", "n", "nu", "nul", // within words
	`{"a":[1,"b",tru`, `"a""b`, "1,2", "1\"a", "truefal", "1,true\"", "[1]2 3", // behind others
}

// Other layers count on the numbers of the kinds.
func TestKindsAreNumberedAsTheDocumentSays(t *testing.T) {
	got := []int{octet.OpenArray, octet.CloseArray, octet.OpenObject, octet.CloseObject, octet.Comma, octet.Colon, octet.Mark, octet.Numeral, octet.Letter}
	if !slices.Equal(got, []int{2, 3, 4, 5, 6, 7, 8, 9, 10}) {
		t.Errorf("kinds %v", got)
	}
}

// P7.1 and P7.4: a new lexer is ahead of all bytes, and another one than all before it.
func TestNewLexer(t *testing.T) {
	l := lex.New()
	isLexer(t, l, "", 0, 0)
	l.Step('"')
	isLexer(t, l, `"`, 1, 1)
	isLexer(t, lex.New(), "", 0, 0)
	if tokens, kind := lex.New().Close(); len(tokens) != 0 || kind != api.Accept {
		t.Errorf("Close = %v, %d", tokens, kind)
	}
}

// P7.2: the first byte of all, each of the 256.
func TestStepOfEachFirstByte(t *testing.T) {
	kinds := map[byte]int{'[': 2, ']': 3, '{': 4, '}': 5, ',': 6, ':': 7, '"': 8, '-': 9, 't': 10, 'f': 10, 'n': 10}
	for c := byte('0'); c <= '9'; c++ {
		kinds[c] = 9
	}
	for i := range 256 {
		c := byte(i)
		var want []lex.Token
		fault, at, carry := api.Going, 1, 0
		switch {
		case kinds[c] >= 8:
			want, carry = []lex.Token{begun(kinds[c], 0)}, 1
		case kinds[c] > 0:
			want = []lex.Token{single(kinds[c], 0)}
		case c != ' ' && c != '\t' && c != '\n' && c != '\r':
			fault, at = api.BadOrder, 0
		}
		l := lex.New()
		if tokens, kind := l.Step(c); !slices.Equal(tokens, want) || kind != fault {
			t.Errorf("Step(%#x) = %v, %d, want %v, %d", c, tokens, kind, want, fault)
		}
		isLexer(t, l, string([]byte{c}), at, carry)
		if fault != api.Going {
			isOver(t, l, string([]byte{c}), 0)
		}
	}
}

// P7.2, P7.3 and P7.4: each of all 256 bytes behind each kind of place, and what comes of it.
func TestStepOfEachByteBehindEachPlace(t *testing.T) {
	for _, s := range within {
		for c := range 256 {
			steps(t, s+string([]byte{byte(c)}))
		}
	}
}

// P7.2, P7.3, P7.4 and P7.5: all short texts of the bytes that stand at an edge, and of some words' letters, alone and behind a token.
func TestShortTexts(t *testing.T) {
	const edges = " \n[]{},:\"-+.01eEtrufalsn\\/x;\x00\x1f\x80\xc3\xff"
	var try func(s string, left int)
	try = func(s string, left int) {
		whole(t, s)
		steps(t, s)
		if left == 0 {
			return
		}
		for i := range len(edges) {
			try(s+edges[i:i+1], left-1)
		}
	}
	try("", 3)
	for _, s := range within {
		try(s, 2)
	}
}

// P7.2 and P7.5: blanks of each kind are no tokens, wherever they stand outside of one.
func TestBlanks(t *testing.T) {
	for _, s := range []string{" ", "\t", "\n", "\r", " \t\n\r \t\n\r"} {
		if all, v := lex.All([]byte(s)); len(all) != 0 || v != verdict(api.Accept, len(s)) {
			t.Errorf("All(%q) = %v, %v", s, all, v)
		}
		n := len(s)
		all, v := lex.All([]byte(s + "[" + s + "1" + s + `"` + "a " + `"` + s + "null" + s + "]" + s))
		want := []lex.Token{
			single(2, n), begun(9, 2*n+1), ended(9, 2*n+1, 2*n+2, "1"), begun(8, 3*n+2), ended(8, 3*n+2, 3*n+6, "a "),
			begun(10, 4*n+6), ended(10, 4*n+6, 4*n+10, "null"), single(3, 5*n+10),
		}
		if !slices.Equal(all, want) || v != verdict(api.Accept, 6*n+11) {
			t.Errorf("with %q between: %v, %v, want %v", s, all, v, want)
		}
	}
	for _, s := range []string{"\v", "\f", "\x00", "\u00a0", "\u2028", "\ufeff", "\x85"} {
		if all, v := lex.All([]byte(" " + s)); len(all) != 0 || v != verdict(api.BadOrder, 1) {
			t.Errorf("All(%q) = %v, %v", " "+s, all, v)
		}
	}
}

// P7.2: a number's token comes in the one step of the byte that ends it, ahead of what that byte is or begins, and beside the fault too.
func TestNumberEndsByTheByteBehindIt(t *testing.T) {
	for s, behind := range map[string][]lex.Token{
		" ": nil, "\t": nil, "\n": nil, "\r": nil,
		"[": {single(2, 7)}, "]": {single(3, 7)}, "{": {single(4, 7)}, "}": {single(5, 7)}, ",": {single(6, 7)}, ":": {single(7, 7)}, `"`: {begun(8, 7)},
	} {
		l, all := stepped(t, " -1.5e3")
		if !slices.Equal(all, []lex.Token{begun(9, 1)}) {
			t.Errorf("ahead of %q: %v", s, all)
		}
		isLexer(t, l, s, 7, 6)
		want := append([]lex.Token{ended(9, 1, 7, "-1.5e3")}, behind...)
		if tokens, kind := l.Step(s[0]); !slices.Equal(tokens, want) || kind != api.Going {
			t.Errorf("Step(%q) = %v, %d, want %v", s, tokens, kind, want)
		}
		carry := 0
		if s == `"` {
			carry = 1
		}
		isLexer(t, l, s, 8, carry)
	}
	for c := range 256 {
		if octet.Kind(byte(c)) != octet.Other || sticky.FindString(string([]byte{byte(c)})) != "" {
			continue
		}
		l, _ := stepped(t, " -1.5e3")
		want := []lex.Token{ended(9, 1, 7, "-1.5e3")}
		if tokens, kind := l.Step(byte(c)); !slices.Equal(tokens, want) || kind != api.BadOrder {
			t.Errorf("Step(%#x) = %v, %d, want %v, BadOrder", c, tokens, kind, want)
		}
		isOver(t, l, string([]byte{byte(c)}), 7)
	}
}

// P7.2: numbers that break at each of their places: there is no token of them then.
func TestBrokenNumbers(t *testing.T) {
	for s, at := range map[string]int{
		"-,": 1, "- ": 1, "--": 1, "-+": 1, "-.": 1, "-e": 1, "-t": 1, "-\"": 1, "-\x00": 1, "-\xff": 1, "-]": 1,
		"00": 1, "01": 1, "-00": 2, "-01": 2, "0-": 1, "0+": 1, "0x": 1, "0a": 1, "0t": 1, "0f": 1, "0n": 1,
		"1-": 1, "12+": 2, "1a": 1, "1t": 1, "1true": 1, "12null": 2, "1E,": 2,
		"1.,": 2, "1. ": 2, "1..": 2, "1.e": 2, "1.-": 2, "1.+": 2, "1.t": 2, "1.\"": 2, "1.;": 2,
		"1.5.": 3, "1.5-": 3, "1.5+": 3, "1.5x": 3, "1.5t": 3,
		"1e,": 2, "1e ": 2, "1ee": 2, "1e.": 2, "1et": 2, "1e]": 2, "1e\"": 2, "1e\x80": 2,
		"1e+,": 3, "1e--": 3, "1e++": 3, "1e-e": 3, "1e-.": 3, "1e-}": 3,
		"1e5.": 3, "1e5e": 3, "1e5-": 3, "1e5+": 3, "1e5f": 3, "1e05E": 4,
	} {
		all, v := lex.All([]byte(s))
		if !slices.Equal(all, []lex.Token{begun(9, 0)}) || v != verdict(api.BadNumber, at) {
			t.Errorf("All(%q) = %v, %v, want BadNumber at %d", s, all, v, at)
		}
		steps(t, "[ "+s+"]")
	}
}

// P7.2: strings with each fault of layer 6 within them: no token but that with which they begin, and whatever stood ahead.
func TestBrokenStrings(t *testing.T) {
	for s, want := range map[string]api.Verdict{
		"\"\n": verdict(api.BadSign, 1), "\"\x00\"": verdict(api.BadSign, 1), "\"ab\x1f": verdict(api.BadSign, 3), "\"\t\"": verdict(api.BadSign, 1),
		"\"\xff": verdict(api.BadUTF, 1), "\"a\x80\"": verdict(api.BadUTF, 2), "\"\xc3\"": verdict(api.BadUTF, 2), "\"\xe2\x82\n": verdict(api.BadUTF, 3), "\"\xed\xa0": verdict(api.BadUTF, 2),
		`"\q`: verdict(api.BadEscape, 2), `"\U0041"`: verdict(api.BadEscape, 2), `"\u00g`: verdict(api.BadEscape, 5), `"\u"`: verdict(api.BadEscape, 3), "\"\\\n": verdict(api.BadEscape, 2), `"\ud83d\udc"`: verdict(api.BadEscape, 11),
		`"\udc00"`: verdict(api.BadPair, 4), `"\ud83d"`: verdict(api.BadPair, 7), `"\ud83dx`: verdict(api.BadPair, 7), `"\ud83d\n`: verdict(api.BadPair, 8), `"\ud83d\u0`: verdict(api.BadPair, 9), `"\ud83d\ud8`: verdict(api.BadPair, 10),
	} {
		all, v := lex.All([]byte(s))
		if !slices.Equal(all, []lex.Token{begun(8, 0)}) || v != want {
			t.Errorf("All(%q) = %v, %v, want %v", s, all, v, want)
		}
		all, v = lex.All([]byte("{1" + s + "]"))
		want.At += 2
		if !slices.Equal(all, []lex.Token{single(4, 0), begun(9, 1), ended(9, 1, 2, "1"), begun(8, 2)}) || v != want {
			t.Errorf("All(%q) = %v, %v, want %v", "{1"+s, all, v, want)
		}
		steps(t, s)
	}
}

// P7.2: strings, with nothing in them too, and their signs where they have escapes; From and To are places of bytes, both marks' own with them.
func TestStrings(t *testing.T) {
	for s, text := range map[string]string{
		`""`: "", `"a"`: "a", `"a b,[1]:{}true"`: "a b,[1]:{}true", "\"\u00e9\u20ac\U0001f600\"": "\u00e9\u20ac\U0001f600", "\"\x7f\"": "\x7f",
		`"\""`: `"`, `"\\"`: `\`, `"\/\b\f\n\r\t"`: "/\b\f\n\r\t", `"\u0000"`: "\x00", `"\u00E9x"`: "\u00e9x", `"\ud83d\ude00"`: "\U0001f600", `"a\\\"b"`: `a\"b`,
		`"` + strings.Repeat(`ab\n`, 500) + `"`: strings.Repeat("ab\n", 500),
	} {
		all, v := lex.All([]byte(s))
		if !slices.Equal(all, []lex.Token{begun(8, 0), ended(8, 0, len(s), text)}) || v != verdict(api.Accept, len(s)) {
			t.Errorf("All(%q) = %v, %v", s, all, v)
		}
		steps(t, s)
		all, _ = lex.All([]byte(s + s + " " + s))
		n := len(s)
		want := []lex.Token{begun(8, 0), ended(8, 0, n, text), begun(8, n), ended(8, n, 2*n, text), begun(8, 2*n+1), ended(8, 2*n+1, 3*n+1, text)}
		if !slices.Equal(all, want) {
			t.Errorf("three of %q: %v", s, all)
		}
	}
}

// P7.2: words, whole, and two right behind one another, whichever they are; a word's end needs no byte behind it.
func TestWords(t *testing.T) {
	words := []string{"true", "false", "null"}
	for _, one := range words {
		n := len(one)
		l, all := stepped(t, one)
		if !slices.Equal(all, []lex.Token{begun(10, 0), ended(10, 0, n, one)}) {
			t.Errorf("%s: %v", one, all)
		}
		isLexer(t, l, one, n, 0)
		for _, other := range words {
			s := one + other
			all, v := lex.All([]byte(s))
			want := []lex.Token{begun(10, 0), ended(10, 0, n, one), begun(10, n), ended(10, n, len(s), other)}
			if !slices.Equal(all, want) || v != verdict(api.Accept, len(s)) {
				t.Errorf("%s: %v, %v", s, all, v)
			}
			steps(t, s)
		}
		for _, tail := range []string{"1", "-0", `"a"`, "[", "}", ",", ":", "\n"} {
			whole(t, one+tail)
			steps(t, one+tail)
		}
		for _, tail := range []string{"x", "e", "E", "l", "s", "a", "r", "u", ".", "+", ";", "\x00", "\xff", "_"} {
			all, v := lex.All([]byte(one + tail))
			if !slices.Equal(all, []lex.Token{begun(10, 0), ended(10, 0, n, one)}) || v != verdict(api.BadOrder, n) {
				t.Errorf("%s%s: %v, %v", one, tail, all, v)
			}
		}
	}
}

// P7.2: words broken at each letter, by each other byte.
func TestBrokenWords(t *testing.T) {
	for _, word := range []string{"true", "false", "null"} {
		for at := 1; at < len(word); at++ {
			for c := range 256 {
				if byte(c) == word[at] {
					continue
				}
				s := word[:at] + string([]byte{byte(c)})
				l, all := stepped(t, s[:at])
				tokens, kind := l.Step(byte(c))
				if !slices.Equal(all, []lex.Token{begun(10, 0)}) || len(tokens) != 0 || kind != api.BadWord {
					t.Errorf("%q: %v, then %v, %d", s, all, tokens, kind)
				}
				isOver(t, l, s, at)
			}
		}
	}
	for s, at := range map[string]int{"True": 0, "NULL": 0, "nil": 1, "nan": 1, "tRUE": 1, "nulL": 3, "fa lse": 2, "t\"rue": 1, "n1": 1} {
		want := verdict(api.BadWord, at)
		if at == 0 {
			want.Kind = api.BadOrder
		}
		if all, v := lex.All([]byte(s)); len(all) != min(at, 1) || v != want {
			t.Errorf("All(%q) = %v, %v, want %v", s, all, v, want)
		}
	}
}

// P7.2: outside of tokens each byte of no kind is BadOrder, behind whatever has ended.
func TestBytesOfNoKind(t *testing.T) {
	for c := range 256 {
		if octet.Kind(byte(c)) != octet.Other {
			continue
		}
		for _, s := range []string{"", " ", "[", "]", "{", "}", ",", ":", `"a"`, "true", "1 ", "1,", "[null]\n"} {
			l, _ := stepped(t, s)
			if tokens, kind := l.Step(byte(c)); len(tokens) != 0 || kind != api.BadOrder {
				t.Errorf("behind %q: Step(%#x) = %v, %d", s, c, tokens, kind)
			}
			isOver(t, l, s, len(s))
		}
	}
}

// P7.2: a token with which something begins has To the same as From, and an empty Text, and comes first; those of one byte have no Text.
func TestPairsOfTokens(t *testing.T) {
	all, v := lex.All([]byte(` {"a\n":[-1.5e3,true,""]}` + "\n"))
	want := []lex.Token{
		single(octet.OpenObject, 1),
		{Kind: octet.Mark, Begun: true, From: 2, To: 2}, {Kind: octet.Mark, From: 2, To: 7, Text: "a\n"}, single(octet.Colon, 7), single(octet.OpenArray, 8),
		{Kind: octet.Numeral, Begun: true, From: 9, To: 9}, {Kind: octet.Numeral, From: 9, To: 15, Text: "-1.5e3"}, single(octet.Comma, 15),
		{Kind: octet.Letter, Begun: true, From: 16, To: 16}, {Kind: octet.Letter, From: 16, To: 20, Text: "true"}, single(octet.Comma, 20),
		{Kind: octet.Mark, Begun: true, From: 21, To: 21}, {Kind: octet.Mark, From: 21, To: 23}, single(octet.CloseArray, 23), single(octet.CloseObject, 24),
	}
	if !slices.Equal(all, want) || v != verdict(api.Accept, 26) {
		t.Errorf("%v, %v", all, v)
	}
}

// P7.3: no more bytes come outside of tokens, within a number that is whole, and within what isn't.
func TestClose(t *testing.T) {
	for s, want := range map[string][]lex.Token{
		"": nil, " ": nil, "[": nil, "]": nil, "{": nil, "}": nil, ",": nil, ":": nil, `""`: nil, `"a"`: nil, "true": nil, "null ": nil, "1 ": nil, "1]": nil,
		"0": {ended(9, 0, 1, "0")}, "-0": {ended(9, 0, 2, "-0")}, "12": {ended(9, 0, 2, "12")}, " 0.5": {ended(9, 1, 4, "0.5")}, "[1e5": {ended(9, 1, 4, "1e5")}, "1,-1E-05": {ended(9, 2, 8, "-1E-05")},
	} {
		l, _ := stepped(t, s)
		if tokens, kind := l.Close(); !slices.Equal(tokens, want) || kind != api.Accept {
			t.Errorf("Close behind %q = %v, %d, want %v", s, tokens, kind, want)
		}
		isOver(t, l, s, len(s))
	}
	for _, s := range []string{
		"-", "1.", "-0.", "1e", "1E", "1e+", "1.5e-", "1 -", "[1,2.",
		`"`, `"a`, `"\`, `"\u00`, `"\ud83d`, `"\ud83d\u`, "\"\xc3", `""` + `"`, `[1,"2`, `1"`,
		"t", "tr", "tru", "f", "fa", "fal", "fals", "n", "nu", "nul", "truefals", "[nul",
	} {
		l, _ := stepped(t, s)
		if tokens, kind := l.Close(); len(tokens) != 0 || kind != api.Truncated {
			t.Errorf("Close behind %q = %v, %d", s, tokens, kind)
		}
		isOver(t, l, s, len(s))
	}
}

// P7.1 and P7.4: At and Carry behind each byte, written out.
func TestAtAndCarry(t *testing.T) {
	for s, want := range map[string][]int{
		`[12,"ab"]`:                        {0, 1, 2, 0, 1, 2, 3, 0, 0},
		` -0.5e+7 `:                        {0, 1, 2, 3, 4, 5, 6, 7, 0},
		`truenull,false`:                   {1, 2, 3, 0, 1, 2, 3, 0, 0, 1, 2, 3, 4, 0},
		`1"\u00e9"2` + "\n":                {1, 1, 2, 3, 4, 5, 6, 7, 0, 1, 0},
		"\"\u20ac\"\"\"":                   {1, 2, 3, 4, 0, 1, 0},
		`{"":{` + " \t\r\n" + `"a":1}}`:    {0, 1, 0, 0, 0, 0, 0, 0, 0, 1, 2, 0, 0, 1, 0, 0},
		`"` + strings.Repeat("a", 8) + `"`: {1, 2, 3, 4, 5, 6, 7, 8, 9, 0},
	} {
		if len(want) != len(s) {
			t.Fatalf("%q: %d bytes, %d numbers", s, len(s), len(want))
		}
		l := lex.New()
		for at := range len(s) {
			l.Step(s[at])
			isLexer(t, l, s[:at+1], at+1, want[at])
		}
		l.Close()
		isOver(t, l, s, len(s))
	}
}

// P7.1, P7.2 and P7.4: at a fault the byte isn't stepped through, and nothing is carried any more.
func TestAtBehindFaults(t *testing.T) {
	for s, c := range map[string]byte{`"ab`: '\n', `"\u00`: 'x', `"\ud83d`: '"', "\"\xe2\x82": 'a', "-": ',', "12": 'f', "1.": ']', "1e+": ' ', "tru": 'r', "n": '"', "[1,": ';', "12,34": '#', "": 0xff} {
		l, _ := stepped(t, s)
		if _, kind := l.Step(c); kind < api.BadUTF || kind > api.BadOrder {
			t.Errorf("behind %q: %d", s, kind)
		}
		isOver(t, l, s, len(s))
	}
}

// P7.5: no bytes, and each fault with its place and the tokens ahead of it.
func TestAll(t *testing.T) {
	head := []lex.Token{single(2, 0), begun(9, 1), ended(9, 1, 3, "12"), single(6, 3)}
	for s, want := range map[string]struct {
		tail []lex.Token
		v    api.Verdict
	}{
		"]":             {[]lex.Token{single(3, 4)}, verdict(api.Accept, 5)},
		"":              {nil, verdict(api.Accept, 4)},
		"\"\xff":        {[]lex.Token{begun(8, 4)}, verdict(api.BadUTF, 5)},
		`"a\q"`:         {[]lex.Token{begun(8, 4)}, verdict(api.BadEscape, 7)},
		`"\ud800"]`:     {[]lex.Token{begun(8, 4)}, verdict(api.BadPair, 11)},
		"01]":           {[]lex.Token{begun(9, 4)}, verdict(api.BadNumber, 5)},
		"-]":            {[]lex.Token{begun(9, 4)}, verdict(api.BadNumber, 5)},
		"nul]":          {[]lex.Token{begun(10, 4)}, verdict(api.BadWord, 7)},
		"\"\x1f\"":      {[]lex.Token{begun(8, 4)}, verdict(api.BadSign, 5)},
		"?1":            {nil, verdict(api.BadOrder, 4)},
		"34;":           {[]lex.Token{begun(9, 4), ended(9, 4, 6, "34")}, verdict(api.BadOrder, 6)},
		"null;[":        {[]lex.Token{begun(10, 4), ended(10, 4, 8, "null")}, verdict(api.BadOrder, 8)},
		"34":            {[]lex.Token{begun(9, 4), ended(9, 4, 6, "34")}, verdict(api.Accept, 6)},
		"34.":           {[]lex.Token{begun(9, 4)}, verdict(api.Truncated, 7)},
		`"34`:           {[]lex.Token{begun(8, 4)}, verdict(api.Truncated, 7)},
		"tru":           {[]lex.Token{begun(10, 4)}, verdict(api.Truncated, 7)},
		"]]}:,\xff\xff": {[]lex.Token{single(3, 4), single(3, 5), single(5, 6), single(7, 7), single(6, 8)}, verdict(api.BadOrder, 9)},
	} {
		all, v := lex.All([]byte("[12," + s))
		if !slices.Equal(all, slices.Concat(head, want.tail)) || v != want.v {
			t.Errorf("All(%q) = %v, %v, want %v behind the head, %v", "[12,"+s, all, v, want.tail, want.v)
		}
		steps(t, "[12,"+s)
	}
	for _, none := range [][]byte{nil, {}} {
		if all, v := lex.All(none); len(all) != 0 || v != verdict(api.Accept, 0) {
			t.Errorf("All of no bytes = %v, %v", all, v)
		}
	}
	all, v := lex.All([]byte("[12]")) // the chapter's example
	if want := []lex.Token{single(2, 0), begun(9, 1), ended(9, 1, 3, "12"), single(3, 3)}; !slices.Equal(all, want) || v != verdict(api.Accept, 4) {
		t.Errorf("the chapter's example: %v, %v", all, v)
	}
}

// P7.2 and P7.5: numbers and strings of right texts, against the library's reader.
func TestAllAgainstTheLibrary(t *testing.T) {
	const s = `{"a":[1,-2.5e+10,"\u00e9\ud83d\ude00",true],"":{"b\n":[false,null,{}]},"c":0}`
	d := json.NewDecoder(strings.NewReader(s))
	d.UseNumber()
	var want []string
	for tok, err := d.Token(); err == nil; tok, err = d.Token() {
		switch x := tok.(type) {
		case string:
			want = append(want, x)
		case json.Number:
			want = append(want, string(x))
		}
	}
	all, v := lex.All([]byte(s))
	var got []string
	for _, token := range all {
		if (token.Kind == octet.Mark || token.Kind == octet.Numeral) && !token.Begun {
			got = append(got, token.Text)
		}
	}
	if !slices.Equal(got, want) || v != verdict(api.Accept, len(s)) {
		t.Errorf("%q, %v, want %q", got, v, want)
	}
}

// Tokens can be held against one another by ==.
func TestTokensAreHeldByTheirFields(t *testing.T) {
	one, other := ended(9, 0, 1, "1"), ended(9, 0, 1, "1")
	if one != other || one == begun(9, 0) || one == ended(9, 0, 1, "2") {
		t.Error("tokens differ by something else than their fields")
	}
}

// P2: one lexer has nothing to do with another one, though they go in turn.
func TestLexersStandAlone(t *testing.T) {
	for _, s := range within {
		for _, o := range within {
			one, other := lex.New(), lex.New()
			var got, of []lex.Token
			for at := range max(len(s), len(o)) {
				if at < len(s) {
					tokens, _ := one.Step(s[at])
					got = append(got, tokens...)
				}
				if at < len(o) {
					tokens, _ := other.Step(o[at])
					of = append(of, tokens...)
				}
			}
			_, want := stepped(t, s)
			_, wanted := stepped(t, o)
			if !slices.Equal(got, want) || !slices.Equal(of, wanted) || one.At() != len(s) || other.At() != len(o) {
				t.Fatalf("%q and %q in turn: %v, %v", s, o, got, of)
			}
		}
	}
}

// An answer is new memory: what is written over it, spare room too, changes neither another answer nor what is to come.
func TestAnswersAreNewMemory(t *testing.T) {
	const s = `[12,-3.5,"a\n",true]1`
	want, _ := answer(s)
	wrong := lex.Token{Kind: 99, Text: "wrong"}
	l := lex.New()
	var answers, copies [][]lex.Token
	keep := func(tokens []lex.Token) {
		answers, copies = append(answers, tokens), append(copies, slices.Clone(tokens))
	}
	for at := range len(s) {
		tokens, _ := l.Step(s[at])
		keep(tokens)
		spare := tokens[:cap(tokens)]
		for i := len(tokens); i < len(spare); i++ {
			spare[i] = wrong
		}
	}
	tokens, _ := l.Close()
	keep(tokens)
	for i := range answers {
		if !slices.Equal(answers[i], copies[i]) {
			t.Errorf("answer %d was changed: %v, not %v", i, answers[i], copies[i])
		}
	}
	if got := slices.Concat(copies...); !slices.Equal(got, want) {
		t.Errorf("%v, want %v", got, want)
	}
}

// What is handed in isn't changed, spare room included, and isn't kept.
func TestBytesThatAreHandedIn(t *testing.T) {
	const s = `[12,"a\n",true,34`
	want, _ := answer(s)
	b := append(make([]byte, 0, 2*len(s)), s...)
	room := b[:cap(b)]
	for i := len(b); i < len(room); i++ {
		room[i] = '7'
	}
	before := slices.Clone(room)
	all, v := lex.All(b)
	if !slices.Equal(room, before) {
		t.Errorf("the bytes were changed: %q", room)
	}
	for i := range room {
		room[i] = '!'
	}
	if !slices.Equal(all, want) || v != verdict(api.Accept, len(s)) {
		t.Errorf("%v, %v, want %v", all, v, want)
	}
}

// P1: long tokens, and many of them, are gone through in time that grows no faster than they do.
func TestLongTexts(t *testing.T) {
	const many = 1 << 20
	digits := "-1" + strings.Repeat("0123456789", many/10) + "." + strings.Repeat("7", many) + "e-" + strings.Repeat("0", many)
	signs := strings.Repeat("a\u00e9\u20ac", many/6)
	for s, want := range map[string][]lex.Token{
		digits:                      {begun(9, 0), ended(9, 0, len(digits), digits)},
		digits + " ":                {begun(9, 0), ended(9, 0, len(digits), digits)},
		`"` + signs + `"`:           {begun(8, 0), ended(8, 0, len(signs)+2, signs)},
		strings.Repeat(" \n", many): nil,
	} {
		if all, v := lex.All([]byte(s)); !slices.Equal(all, want) || v != verdict(api.Accept, len(s)) {
			t.Errorf("%d bytes: %d tokens, %v", len(s), len(all), v)
		}
	}
	all, v := lex.All([]byte(strings.Repeat(`[true,1,"a"]`, many/12)))
	if len(all) != many/12*10 || v.Kind != api.Accept {
		t.Errorf("%d tokens, %v", len(all), v)
	}
	for i, token := range all {
		if want := i / 10 * 12; token.From < want || token.To > want+12 {
			t.Fatalf("token %d is %v", i, token)
		}
	}
	for tail, kind := range map[string]int{"x": api.BadNumber, ".": api.BadNumber, "\xff": api.BadOrder} {
		if _, v := lex.All([]byte(digits + tail)); v != verdict(kind, len(digits)) {
			t.Errorf("with %q: %v", tail, v)
		}
	}
}

// P2: no call changes what a later one answers.
func TestAnswersHangOnArgumentsAlone(t *testing.T) {
	for range 2 {
		for _, s := range within {
			whole(t, s)
			l, _ := stepped(t, s)
			want, _ := answer(s)
			for range 2 {
				isLexer(t, l, s, len(s), carried(want, len(s)))
			}
		}
	}
}
