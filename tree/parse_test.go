package tree_test

import (
	"bytes"
	"encoding/json"
	"math"
	"regexp"
	"runtime/debug"
	"slices"
	"strings"
	"testing"
	"unicode/utf8"

	"riffle/api"
	"riffle/lex"
	"riffle/nest"
	"riffle/tree"
)

// told is what Part answers, by the chapter's words: all tokens up to a fault of layer 7 first, and then layer 9's Take of each.
func told(s string, depth int, closed bool) (api.Value, bool, api.Verdict) {
	var tokens []lex.Token
	l, n := lex.New(), nest.New(depth)
	end := api.Going
	for i := 0; i < len(s) && end == api.Going; i++ {
		var some []lex.Token
		some, end = l.Step(s[i])
		tokens = append(tokens, some...)
	}
	byClose := end == api.Going && closed
	if byClose {
		var some []lex.Token
		some, end = l.Close()
		tokens = append(tokens, some...)
	}
	var events []api.Event
	value := func() (api.Value, bool) {
		if len(events) == 0 {
			return api.Value{}, false
		}
		v, _ := soFar(events)
		return v, true
	}
	for _, token := range tokens {
		some, fault := n.Take(token)
		if fault != api.Going {
			v, begun := value()
			return v, begun, api.Verdict{Kind: fault, At: token.From}
		}
		events = append(events, some...)
	}
	v, begun := value()
	switch {
	case end == api.BadOrder && n.Done():
		end = api.Trailing
	case byClose && end == api.Accept:
		end = n.Close()
	}
	return v, begun, api.Verdict{Kind: end, At: l.At()}
}

// isTold holds Part and Parse of some bytes against the chapter's words, and answers Parse's verdict.
func isTold(t *testing.T, s string, depth int) api.Verdict {
	t.Helper()
	for _, closed := range []bool{false, true} {
		v, begun, x := tree.Part([]byte(s), depth, closed)
		want, wantBegun, wantX := told(s, depth, closed)
		if x != wantX || begun != wantBegun || !equal(v, want) {
			t.Fatalf("Part(%q, %d, %v) = %s, %v, want %s, %v", s, depth, closed, noteSoFar(v, begun), x, noteSoFar(want, wantBegun), wantX)
		}
	}
	v, x := tree.Parse([]byte(s), depth)
	want, _, wantX := told(s, depth, true)
	if wantX.Kind != api.Accept {
		want = api.Value{}
	}
	if x != wantX || !equal(v, want) {
		t.Fatalf("Parse(%q, %d) = %s, %v, want %s, %v", s, depth, note(v), x, note(want), wantX)
	}
	return x
}

// isPart holds what Part answers.
func isPart(t *testing.T, s string, depth int, closed bool, value string, kind, at int) {
	t.Helper()
	v, begun, x := tree.Part([]byte(s), depth, closed)
	if got := noteSoFar(v, begun); got != value || x != (api.Verdict{Kind: kind, At: at}) {
		t.Errorf("Part(%q, %d, %v) = %s, %v, want %s, {%d %d}", s, depth, closed, got, x, value, kind, at)
	}
}

// isParse holds what Parse answers; beside a fault a zero value.
func isParse(t *testing.T, s string, depth int, value string, kind, at int) {
	t.Helper()
	v, x := tree.Parse([]byte(s), depth)
	if got := note(v); got != value || x != (api.Verdict{Kind: kind, At: at}) {
		t.Errorf("Parse(%q, %d) = %s, %v, want %s, {%d %d}", s, depth, got, x, value, kind, at)
	}
}

// P10.2: texts, and their values.
func TestParse(t *testing.T) {
	for s, want := range map[string]string{
		`null`: `z0-4"null"`, `true`: `b0-4"true"`, `false`: `b0-5"false"`,
		`0`: `n0-1"0"`, `12`: `n0-2"12"`, `-0`: `n0-2"-0"`, `1.50E-07`: `n0-8"1.50E-07"`,
		`""`: `s0-2`, `"a"`: `s0-3"a"`, `"\n\u0041\ud83d\ude00"`: "s0-22\"\\nA\U0001f600\"", "\"\u20ac\"": "s0-5\"\u20ac\"",
		`[]`: `a0-2`, `{}`: `o0-2`, "[ \n]": `a0-4`, "{\t\r}": `o0-4`,
		" \t\n\r7 \t\n\r": `n4-5"7"`, ` null `: `z1-5"null"`, "\n\"a\"\n": `s1-4"a"`, ` [] `: `a1-3`, ` {} `: `o1-3`, `7 `: `n0-1"7"`, ` 7`: `n1-2"7"`,
		`[12]`: `a0-4(n1-3"12")`, `[ 1 , "b" ]`: `a0-11(n2-3"1" s6-9"b")`, `[[],[[]],null]`: `a0-14(a1-3 a4-8(a5-7) z9-13"null")`,
		`{"a":1}`: `o0-7("a"n5-6"1")`, `{"":{}}`: `o0-7(""o4-6)`, `{"\n":false , "b" : [ ] }`: `o0-25("\n"b6-11"false" "b"a20-23)`,
		`{"a":1,"b":2,"a":3}`:                 `o0-19("a"n5-6"1" "b"n11-12"2" "a"n17-18"3")`,
		` {"a": [1, {"b": null}], "a": "z"} `: `o1-34("a"a7-23(n8-9"1" o11-22("b"z17-21"null")) "a"s30-33"z")`,
	} {
		isParse(t, s, 9, want, api.Accept, len(s))
		isPart(t, s, 9, true, want, api.Accept, len(s))
		isTold(t, s, 9)
	}
}

// fault is some bytes, their verdict, closed, and what has come of the value.
type fault struct {
	s        string
	kind, at int
	value    string
}

// faults has each fault of layer 7 and of layer 9, nine deep, with its place.
var faults = []fault{
	// nothing, and blanks alone
	{"", api.Empty, 0, "none"}, {" ", api.Empty, 1, "none"}, {" \t\n\r", api.Empty, 4, "none"},
	// ends within each kind of token, and between them
	{`"`, api.Truncated, 1, "s0-0"}, {`"ab`, api.Truncated, 3, "s0-0"}, {`"\`, api.Truncated, 2, "s0-0"}, {`"\u00`, api.Truncated, 5, "s0-0"}, {`"\ud83d`, api.Truncated, 7, "s0-0"}, {"\"\xe2\x82", api.Truncated, 3, "s0-0"},
	{"t", api.Truncated, 1, "z0-0"}, {"fals", api.Truncated, 4, "z0-0"}, {" nul", api.Truncated, 4, "z1-0"},
	{"-", api.Truncated, 1, "n0-0"}, {"1.", api.Truncated, 2, "n0-0"}, {"1e", api.Truncated, 2, "n0-0"}, {"1e-", api.Truncated, 3, "n0-0"}, {"[-", api.Truncated, 2, "a0-0(n1-0)"}, {"[1,2.", api.Truncated, 5, `a0-0(n1-2"1" n3-0)`},
	{"[", api.Truncated, 1, "a0-0"}, {"[ ", api.Truncated, 2, "a0-0"}, {"[1", api.Truncated, 2, `a0-0(n1-2"1")`}, {"[1 ", api.Truncated, 3, `a0-0(n1-2"1")`}, {"[1,", api.Truncated, 3, `a0-0(n1-2"1")`}, {"[tru", api.Truncated, 4, "a0-0(z1-0)"}, {`["a`, api.Truncated, 3, "a0-0(s1-0)"}, {"[[]", api.Truncated, 3, "a0-0(a1-3)"},
	{"{", api.Truncated, 1, "o0-0"}, {`{"`, api.Truncated, 2, "o0-0"}, {`{"a"`, api.Truncated, 4, "o0-0"}, {`{"a":`, api.Truncated, 5, "o0-0"}, {`{"a":1`, api.Truncated, 6, `o0-0("a"n5-6"1")`}, {`{"a":1,`, api.Truncated, 7, `o0-0("a"n5-6"1")`}, {`{"a":1,"b`, api.Truncated, 9, `o0-0("a"n5-6"1")`}, {`{"a":n`, api.Truncated, 6, `o0-0("a"z5-0)`}, {`{"a":{}`, api.Truncated, 7, `o0-0("a"o5-7)`},
	// layer 7: within strings
	{"\"a\xff\"", api.BadUTF, 2, "s0-0"}, {"\"\xe2\x28", api.BadUTF, 2, "s0-0"}, {"[\"a\xc3\"]", api.BadUTF, 4, "a0-0(s1-0)"}, {"{\"\x80", api.BadUTF, 2, "o0-0"}, {"\"\xed\xa0\x80\"", api.BadUTF, 2, "s0-0"},
	{`"\q"`, api.BadEscape, 2, "s0-0"}, {`"\u00g0"`, api.BadEscape, 5, "s0-0"}, {`[1,"\ `, api.BadEscape, 5, `a0-0(n1-2"1" s3-0)`},
	{`"\ud83dx"`, api.BadPair, 7, "s0-0"}, {`"\udc00"`, api.BadPair, 4, "s0-0"}, {`"\ud83d\n"`, api.BadPair, 8, "s0-0"}, {`"\ud83d\u0041"`, api.BadPair, 9, "s0-0"}, {`["\ud800"]`, api.BadPair, 8, "a0-0(s1-0)"},
	{"\"a\nb\"", api.BadSign, 2, "s0-0"}, {"\"\x00", api.BadSign, 1, "s0-0"}, {"{\"a\":\"\x1f", api.BadSign, 6, `o0-0("a"s5-0)`},
	// layer 7: within numbers and words
	{"01", api.BadNumber, 1, "n0-0"}, {"-a", api.BadNumber, 1, "n0-0"}, {"- 1", api.BadNumber, 1, "n0-0"}, {"[1.]", api.BadNumber, 3, "a0-0(n1-0)"}, {"1a", api.BadNumber, 1, "n0-0"}, {"1e,", api.BadNumber, 2, "n0-0"}, {`{"a":01}`, api.BadNumber, 6, `o0-0("a"n5-0)`}, {"1.2.3", api.BadNumber, 3, "n0-0"},
	{"nul]", api.BadWord, 3, "z0-0"}, {"t rue", api.BadWord, 1, "z0-0"}, {"[falsE]", api.BadWord, 5, "a0-0(z1-0)"}, {`{"a":nil`, api.BadWord, 6, `o0-0("a"z5-0)`},
	// layer 7: bytes that begin no token, ahead of the value and within it
	{";", api.BadOrder, 0, "none"}, {" x", api.BadOrder, 1, "none"}, {"\xef\xbb\xbf1", api.BadOrder, 0, "none"}, {"\x00", api.BadOrder, 0, "none"}, {"\x80", api.BadOrder, 0, "none"}, {"+1", api.BadOrder, 0, "none"}, {".5", api.BadOrder, 0, "none"}, {"True", api.BadOrder, 0, "none"}, {"'a'", api.BadOrder, 0, "none"}, {"\v", api.BadOrder, 0, "none"}, {"/**/1", api.BadOrder, 0, "none"},
	{"[;", api.BadOrder, 1, "a0-0"}, {"[1;", api.BadOrder, 2, `a0-0(n1-2"1")`}, {"[1 ;", api.BadOrder, 3, `a0-0(n1-2"1")`}, {"[1,;", api.BadOrder, 3, `a0-0(n1-2"1")`}, {"[true;", api.BadOrder, 5, `a0-0(b1-5"true")`}, {`["a"x`, api.BadOrder, 4, `a0-0(s1-4"a")`}, {"[truex", api.BadOrder, 5, `a0-0(b1-5"true")`}, {"[[]\xff", api.BadOrder, 3, "a0-0(a1-3)"},
	{"{;", api.BadOrder, 1, "o0-0"}, {`{a`, api.BadOrder, 1, "o0-0"}, {`{"a";`, api.BadOrder, 4, "o0-0"}, {`{"a":;`, api.BadOrder, 5, "o0-0"}, {`{"a":1;`, api.BadOrder, 6, `o0-0("a"n5-6"1")`}, {`{"a":1,;`, api.BadOrder, 7, `o0-0("a"n5-6"1")`}, {"{\"a\":[-5\x00", api.BadOrder, 8, `o0-0("a"a5-0(n6-8"-5"))`},
	// layer 7: bytes that begin no token, behind the value
	{"1;", api.Trailing, 1, `n0-1"1"`}, {"1 ;", api.Trailing, 2, `n0-1"1"`}, {"truex", api.Trailing, 4, `b0-4"true"`}, {`"a"x`, api.Trailing, 3, `s0-3"a"`}, {"[];", api.Trailing, 2, "a0-2"}, {"{} \x00", api.Trailing, 3, "o0-2"}, {" null\xff", api.Trailing, 5, `z1-5"null"`}, {"[1]\n\n;", api.Trailing, 5, `a0-3(n1-2"1")`}, {"-0\x80", api.Trailing, 2, `n0-2"-0"`},
	// layer 9: a token of one byte, or one that is Begun, by which no text goes on
	{"]", api.BadOrder, 0, "none"}, {"}", api.BadOrder, 0, "none"}, {",", api.BadOrder, 0, "none"}, {" :", api.BadOrder, 1, "none"},
	{"[1,]", api.BadOrder, 3, `a0-0(n1-2"1")`}, {"[,", api.BadOrder, 1, "a0-0"}, {"[}", api.BadOrder, 1, "a0-0"}, {"[:", api.BadOrder, 1, "a0-0"}, {"[[]}", api.BadOrder, 3, "a0-0(a1-3)"}, {"[true 1", api.BadOrder, 6, `a0-0(b1-5"true")`}, {`[1 "a`, api.BadOrder, 3, `a0-0(n1-2"1")`}, {"[1 t", api.BadOrder, 3, `a0-0(n1-2"1")`}, {"[1 2", api.BadOrder, 3, `a0-0(n1-2"1")`}, {"[1 [", api.BadOrder, 3, `a0-0(n1-2"1")`}, {"[{}{", api.BadOrder, 3, "a0-0(o1-3)"}, {"[1,,", api.BadOrder, 3, `a0-0(n1-2"1")`},
	{"{1", api.BadOrder, 1, "o0-0"}, {"{t", api.BadOrder, 1, "o0-0"}, {"{-x", api.BadOrder, 1, "o0-0"}, {"{[", api.BadOrder, 1, "o0-0"}, {"{]", api.BadOrder, 1, "o0-0"}, {"{,", api.BadOrder, 1, "o0-0"}, {"{:", api.BadOrder, 1, "o0-0"}, {"{{", api.BadOrder, 1, "o0-0"},
	{`{"a"}`, api.BadOrder, 4, "o0-0"}, {`{"a",`, api.BadOrder, 4, "o0-0"}, {`{"a" "`, api.BadOrder, 5, "o0-0"}, {`{"a"1`, api.BadOrder, 4, "o0-0"}, {`{"a"::`, api.BadOrder, 5, "o0-0"}, {`{"a":}`, api.BadOrder, 5, "o0-0"}, {`{"a":,`, api.BadOrder, 5, "o0-0"}, {`{"a":"b"]`, api.BadOrder, 8, `o0-0("a"s5-8"b")`}, {`{"a":"b":`, api.BadOrder, 8, `o0-0("a"s5-8"b")`}, {`{"a":"b""`, api.BadOrder, 8, `o0-0("a"s5-8"b")`}, {`{"a":1,}`, api.BadOrder, 7, `o0-0("a"n5-6"1")`}, {`{"a":1,2`, api.BadOrder, 7, `o0-0("a"n5-6"1")`},
	// layer 9: by the token that comes with a number's end
	{"[1:", api.BadOrder, 2, `a0-0(n1-2"1")`}, {"[12}", api.BadOrder, 3, `a0-0(n1-3"12")`}, {`[1"`, api.BadOrder, 2, `a0-0(n1-2"1")`}, {"[1[", api.BadOrder, 2, `a0-0(n1-2"1")`}, {"[1{", api.BadOrder, 2, `a0-0(n1-2"1")`}, {`{"a":1]`, api.BadOrder, 6, `o0-0("a"n5-6"1")`}, {`{"a":1:`, api.BadOrder, 6, `o0-0("a"n5-6"1")`}, {`{"a":1"`, api.BadOrder, 6, `o0-0("a"n5-6"1")`},
	{"1,", api.Trailing, 1, `n0-1"1"`}, {"1]", api.Trailing, 1, `n0-1"1"`}, {`12"`, api.Trailing, 2, `n0-2"12"`}, {"1[", api.Trailing, 1, `n0-1"1"`}, {"1:", api.Trailing, 1, `n0-1"1"`}, {"1}", api.Trailing, 1, `n0-1"1"`},
	// layer 9: tokens behind the value
	{"1 1", api.Trailing, 2, `n0-1"1"`}, {"[]]", api.Trailing, 2, "a0-2"}, {"{}{", api.Trailing, 2, "o0-2"}, {"[] ,", api.Trailing, 3, "a0-2"}, {`"a":1`, api.Trailing, 3, `s0-3"a"`}, {`"a""`, api.Trailing, 3, `s0-3"a"`}, {"null null", api.Trailing, 5, `z0-4"null"`}, {"truefalse", api.Trailing, 4, `b0-4"true"`}, {"[]-", api.Trailing, 2, "a0-2"}, {"true}", api.Trailing, 4, `b0-4"true"`},
}

// byEnd: is it a verdict that comes with the end of bytes alone? Not closed it is Going.
func byEnd(kind int) bool { return kind == api.Empty || kind == api.Truncated || kind == api.Accept }

// P10.2 and P10.1: each fault, with its place, and the value so far beside it.
func TestFaults(t *testing.T) {
	for _, f := range faults {
		isParse(t, f.s, 9, "z0-0", f.kind, f.at)
		isPart(t, f.s, 9, true, f.value, f.kind, f.at)
		if !byEnd(f.kind) {
			isPart(t, f.s, 9, false, f.value, f.kind, f.at)
		}
		isTold(t, f.s, 9)
	}
}

// P10.2: whatever stands behind a fault changes neither its place nor the value beside it.
func TestBehindFaults(t *testing.T) {
	for _, f := range faults {
		if byEnd(f.kind) {
			continue
		}
		upTo := f.s[:f.at+1]
		for _, behind := range []string{"", " ", "]", "}", `"`, `"]}`, ",1]", ":1}", "1", ";", "\xff", "true", `\`, "[[[[[[[[[[[[", f.s} {
			isParse(t, upTo+behind, 9, "z0-0", f.kind, f.at)
			isPart(t, upTo+behind, 9, true, f.value, f.kind, f.at)
			isPart(t, upTo+behind, 9, false, f.value, f.kind, f.at)
		}
	}
}

// P10.2: bytes that may go on: Going, and how many there are.
func TestPartThatMayGoOn(t *testing.T) {
	for s, want := range map[string]string{
		"": "none", " ": "none", "\n\t ": "none",
		"n": "z0-0", "nul": "z0-0", "null": `z0-4"null"`, "t": "z0-0", "tru": "z0-0", "true": `b0-4"true"`, "false ": `b0-5"false"`,
		"1": "n0-0", "12": "n0-0", "-": "n0-0", "1.": "n0-0", "1e5": "n0-0", "1 ": `n0-1"1"`, " 12\n": `n1-3"12"`,
		`"`: "s0-0", `"a`: "s0-0", `"\ud83d`: "s0-0", `""`: "s0-2", `"a"`: `s0-3"a"`,
		"[": "a0-0", "[12": "a0-0(n1-0)", "[12 ": `a0-0(n1-3"12")`, "[12,": `a0-0(n1-3"12")`, "[12]": `a0-4(n1-3"12")`, "[]": "a0-2", "[[": "a0-0(a1-0)", "[[]": "a0-0(a1-3)", "[[],[": "a0-0(a1-3 a4-0)",
		"{": "o0-0", `{"a`: "o0-0", `{"a"`: "o0-0", `{"a":`: "o0-0", `{"a":1`: `o0-0("a"n5-0)`, `{"a":1,"a"`: `o0-0("a"n5-6"1")`, `{"a":1,"a":{`: `o0-0("a"n5-6"1" "a"o11-0)`, `{"a":t`: `o0-0("a"z5-0)`, `{"a":true`: `o0-0("a"b5-9"true")`, "{}": "o0-2",
		`{"a":1,"b":[2,["x`: `o0-0("a"n5-6"1" "b"a11-0(n12-13"2" a14-0(s15-0)))`, `[1] `: `a0-3(n1-2"1")`,
	} {
		isPart(t, s, 9, false, want, api.Going, len(s))
		isTold(t, s, 9)
	}
}

// P10.2: a number that may go on, and one that ends at the fault's byte, or at Close.
func TestNumbersThatEnd(t *testing.T) {
	isPart(t, "[12", 9, false, "a0-0(n1-0)", api.Going, 3)
	isPart(t, "[12", 9, true, `a0-0(n1-3"12")`, api.Truncated, 3)
	isPart(t, "[12;", 9, false, `a0-0(n1-3"12")`, api.BadOrder, 3)
	isPart(t, "[12}", 9, false, `a0-0(n1-3"12")`, api.BadOrder, 3)
	isPart(t, "[12[", 1, false, `a0-0(n1-3"12")`, api.BadOrder, 3)
	isPart(t, "[12x", 9, false, "a0-0(n1-0)", api.BadNumber, 3)
	isPart(t, "[1.", 9, true, "a0-0(n1-0)", api.Truncated, 3)
	isPart(t, "12", 9, false, "n0-0", api.Going, 2)
	isPart(t, "12", 9, true, `n0-2"12"`, api.Accept, 2)
	isPart(t, "12;", 9, false, `n0-2"12"`, api.Trailing, 2)
	isPart(t, "12[", 9, true, `n0-2"12"`, api.Trailing, 2)
	isPart(t, "1.", 9, true, "n0-0", api.Truncated, 2)
	isPart(t, `{"a":-1`, 9, true, `o0-0("a"n5-7"-1")`, api.Truncated, 7)
	isPart(t, `{"a":-`, 9, true, `o0-0("a"n5-0)`, api.Truncated, 6)
	isParse(t, "12", 9, `n0-2"12"`, api.Accept, 2)
	isParse(t, " 1", 9, `n1-2"1"`, api.Accept, 2)
	isParse(t, "[12", 9, "z0-0", api.Truncated, 3)
	isParse(t, "1e+", 9, "z0-0", api.Truncated, 3)
}

// P10.2: TooDeep at the bracket that is too much, with whatever depth; one below 1 is 1.
func TestTooDeep(t *testing.T) {
	for depth, most := range map[int]int{math.MinInt: 1, -1: 1, 0: 1, 1: 1, 2: 2, 3: 3, 7: 7, 64: 64, 65: 65, 130: 130} {
		for _, way := range []string{"[", " [", "[1,", "[[],", `{"a":`, `{"a":true , "b":`, `{"a":{},"b":`} {
			for _, last := range []string{"[", "[ 1,", `{"a":`, `{"a":0,"a":`} {
				s := strings.Repeat(way, most-1) + last
				isPart(t, s, depth, false, noteOf(s), api.Going, len(s))
				isTold(t, s+"7", depth)
				for _, next := range []string{"[", "{", " [", "[]", "{\"a\":1}", "[;"} {
					at := len(s) + strings.IndexAny(next, "[{")
					isParse(t, s+next, depth, "z0-0", api.TooDeep, at)
					isPart(t, s+next, depth, false, noteOf(s), api.TooDeep, at)
					isPart(t, s+next, depth, true, noteOf(s), api.TooDeep, at)
				}
			}
		}
		s := strings.Repeat("[", most) + strings.Repeat("]", most)
		if x := isTold(t, s, depth); x != (api.Verdict{Kind: api.Accept, At: 2 * most}) {
			t.Errorf("Parse(%q, %d) = %v", s, depth, x)
		}
	}
	isPart(t, "[[", 1, false, "a0-0", api.TooDeep, 1)
	isPart(t, "[1,{", 1, true, `a0-0(n1-2"1")`, api.TooDeep, 3)
	isPart(t, `{"a":[`, 0, true, "o0-0", api.TooDeep, 5)
	isPart(t, "[[],[[", 2, true, "a0-0(a1-3 a4-0)", api.TooDeep, 5)
	isParse(t, "[[],{},[]]", 2, "a0-10(a1-3 o4-6 a7-9)", api.Accept, 10)
	isParse(t, "[{}[", 2, "z0-0", api.BadOrder, 3)
	isParse(t, "[][", 1, "z0-0", api.Trailing, 2)
	isParse(t, "{[", 1, "z0-0", api.BadOrder, 1)
	isParse(t, "[[[]]]", math.MaxInt, "a0-6(a1-5(a2-4))", api.Accept, 6)
}

// noteOf is the value so far of bytes without a fault.
func noteOf(s string) string {
	v, begun, _ := told(s, math.MaxInt, false)
	return noteSoFar(v, begun)
}

// pairs finds pairs of escapes, and lone, where there are no such any more, halves of them.
var pairs = regexp.MustCompile(`(?i)\\u(d[89ab]..)\\u(d[c-f]..)`)
var lone = regexp.MustCompile(`(?i)\\ud[89a-f]`)

// isText: is it a text, by the library, which lets pass what is no UTF-8, and halves of pairs?
func isText(s string) bool {
	return json.Valid([]byte(s)) && utf8.ValidString(s) && !lone.MatchString(pairs.ReplaceAllString(strings.ReplaceAll(s, `\\`, "x"), "x"))
}

// suffixes has what is left of words, broken off at each place, nothing included.
func suffixes(words ...string) []string {
	all := []string{""}
	for _, w := range words {
		for i := 1; i < len(w); i++ {
			all = append(all, w[i:])
		}
	}
	return all
}

// Within a string, and elsewhere, what ends the token that some bytes may break off in.
var (
	stringEnds = append(suffixes(`x\u0000"`, `\ud800\ud800\udc00"`), "\x80\"", "\xa0\"", "\x80\x80\"", "\xa0\x80\"", "\x90\x80\"", "\x80\x80\x80\"", "\x90\x80\x80\"")
	otherEnds  = append(suffixes("true", "false", "null"), "0")
)

// ends is what closes all that is open behind some bytes, and whether they end within a string.
func ends(s string) (all string, quoted bool) {
	for i := 0; i < len(s); i++ {
		switch {
		case quoted && s[i] == '\\':
			i++
		case s[i] == '"':
			quoted = !quoted
		case quoted:
		case s[i] == '[':
			all = "]" + all
		case s[i] == '{':
			all = "}" + all
		case (s[i] == ']' || s[i] == '}') && all != "":
			all = all[1:]
		}
	}
	return all, quoted
}

// begins: do some bytes begin a text?
func begins(s string) bool {
	all, quoted := ends(s)
	fillers := otherEnds
	if quoted {
		fillers = stringEnds
	}
	for _, filler := range fillers {
		for _, rest := range []string{"", "0", ":0", `"":0`} {
			if isText(s + filler + rest + all) {
				return true
			}
		}
	}
	return false
}

// P10.3: the bytes ahead of a fault begin a text, and those with the one at it none.
func isLeast(t *testing.T, s string, x api.Verdict) {
	t.Helper()
	switch {
	case byEnd(x.Kind):
		if x.At != len(s) || !begins(s) {
			t.Fatalf("%q: %v", s, x)
		}
	case x.Kind == api.TooDeep:
		if !begins(s[:x.At+1]) {
			t.Fatalf("%q: %v", s, x)
		}
	case !begins(s[:x.At]) || begins(s[:x.At+1]):
		t.Fatalf("%q: %v isn't the least place", s, x)
	}
	if isText(s) != (x.Kind == api.Accept) && x.Kind != api.TooDeep {
		t.Fatalf("%q: %v", s, x)
	}
}

// P10.3: of the texts and faults above.
func TestPlaceIsTheLeast(t *testing.T) {
	for _, f := range faults {
		isLeast(t, f.s, api.Verdict{Kind: f.kind, At: f.at})
	}
	for _, s := range texts {
		for i := range len(s) {
			isLeast(t, s[:i], isTold(t, s[:i], 9))
			isPart(t, s[:i], 9, false, noteOf(s[:i]), api.Going, i)
		}
	}
}

// P10.2 and P10.3: all short rows of pieces, so deep that it matters and so deep that it doesn't; behind a fault only what follows it at once.
func TestShortRows(t *testing.T) {
	pieces := []string{"[", "]", "{", "}", ",", ":", `"a"`, "0", "-", "true", "nul", ";", " ", `"`, `\`, "\xff"}
	var try func(s string, depth, left int)
	try = func(s string, depth, left int) {
		x := isTold(t, s, depth)
		isLeast(t, s, x)
		if !byEnd(x.Kind) {
			left = min(left, 1)
		}
		for _, p := range pieces {
			if left > 0 {
				try(s+p, depth, left-1)
			}
		}
	}
	for _, row := range []struct {
		s           string
		depth, left int
	}{{"", 9, 4}, {"[", 1, 3}, {"[", 2, 3}, {`{"a":`, 1, 3}, {`{"a":`, 2, 3}, {"[{", 1, 3}, {"[{", 2, 3}, {`[{"a":[0`, 3, 3}} {
		try(row.s, row.depth, row.left)
	}
}

// P10.2 and P10.3: each byte at each place of a text that has all kinds of places.
func TestEachByteAtEachPlace(t *testing.T) {
	for _, s := range []string{
		`{"a":[-1.5e+3,true,null]} `, `["\u00e9\n",{"k":false,"":0},[[]],10 ]`, "[\"\u20ac\U0001f600\",\"\\ud83d\\ude00\"]", "\"\xf0\x90\x80\x80\xf4\x8f\xbf\xbf\xed\x9f\xbf\xe0\xa0\x80\xc3\xa9\"", `0`, `12`, `0.5`, `1E5`,
	} {
		t.Run(s, func(t *testing.T) {
			t.Parallel()
			for i := range len(s) + 1 {
				for c := range 256 {
					b := s[:i] + string([]byte{byte(c)})
					isLeast(t, b, isTold(t, b, 9))
				}
			}
		})
	}
}

// P1, P2 and P10.2: all bytes, and all pairs of bytes, again and again the same.
func TestAllPairsOfBytes(t *testing.T) {
	for c := range 256 {
		isTold(t, string([]byte{byte(c)}), 0)
		for d := range 256 {
			isTold(t, string([]byte{byte(c), byte(d)}), 0)
		}
	}
}

// P10.2: where a value stands, there stands a text whose value it is.
func TestPlacesOfValues(t *testing.T) {
	var look func(s string, v api.Value)
	look = func(s string, v api.Value) {
		own, x := tree.Parse([]byte(s[v.From:v.To]), 99)
		if x != (api.Verdict{Kind: api.Accept, At: v.To - v.From}) || own.From != 0 || own.To != v.To-v.From || !tree.Same(own, v) {
			t.Errorf("%s of %s: %s, %v", note(v), s, note(own), x)
		}
		switch v.Kind {
		case api.Null, api.Bool, api.Number:
			if v.Text != s[v.From:v.To] {
				t.Errorf("%s of %s", note(v), s)
			}
		case api.String:
			var text string
			if err := json.Unmarshal([]byte(s[v.From:v.To]), &text); err != nil || text != v.Text {
				t.Errorf("%s of %s: %v", note(v), s, err)
			}
		}
		for _, x := range v.Items {
			look(s, x)
		}
	}
	for _, s := range texts {
		v, x := tree.Parse([]byte(s), 99)
		if x.Kind != api.Accept {
			t.Fatalf("Parse(%s) = %v", s, x)
		}
		look(s, v)
	}
}

// Rules: the bytes that are handed in aren't changed, nor kept, and what is answered is new.
func TestBytesAreNotKept(t *testing.T) {
	for _, s := range texts {
		room := []byte(s + "room")
		b := room[:len(s)]
		v, x := tree.Parse(b, 9)
		p, begun, y := tree.Part(b, 9, false)
		q, _, _ := tree.Part(b, 9, true)
		if string(room) != s+"room" {
			t.Fatalf("%s: the bytes became %q", s, room)
		}
		want, _, wantX := told(s, 9, true)
		for i := range room {
			room[i] = ';'
		}
		scribble(q)
		if !equal(v, want) || x != wantX {
			t.Errorf("%s: Parse became %s, %v", s, note(v), x)
		}
		want, _, wantX = told(s, 9, false)
		if !equal(p, want) || !begun || y != wantX {
			t.Errorf("%s: Part became %s, %v", s, note(p), y)
		}
	}
}

// P1: nil is as good as no bytes.
func TestNoBytes(t *testing.T) {
	for _, depth := range []int{math.MinInt, 0, 1, math.MaxInt} {
		for _, b := range [][]byte{nil, {}} {
			if v, x := tree.Parse(b, depth); x != (api.Verdict{Kind: api.Empty}) || note(v) != "z0-0" {
				t.Errorf("Parse = %s, %v", note(v), x)
			}
			if v, begun, x := tree.Part(b, depth, false); x != (api.Verdict{}) || begun || note(v) != "z0-0" {
				t.Errorf("Part = %s, %v, %v", note(v), begun, x)
			}
			if v, begun, x := tree.Part(b, depth, true); x != (api.Verdict{Kind: api.Empty}) || begun || note(v) != "z0-0" {
				t.Errorf("Part = %s, %v, %v", note(v), begun, x)
			}
		}
	}
}

// P1 and P10.2: arrays of many items, and texts so deep that a call in each array would want more room than there is.
func TestGreatTexts(t *testing.T) {
	wide := "[" + strings.Repeat("[1,2],", 20000) + "{}]"
	if v, x := tree.Parse([]byte(wide), 2); x != (api.Verdict{Kind: api.Accept, At: len(wide)}) || len(v.Items) != 20001 || v.Items[19999].To != len(wide)-4 || tree.Depth(v) != 2 {
		t.Errorf("%v, %d items", x, len(v.Items))
	}
	defer debug.SetMaxStack(debug.SetMaxStack(4 << 20))
	const deep = 150000
	for _, way := range [][2]string{{"[", "]"}, {`{"a":`, "}"}} {
		b := slices.Concat(bytes.Repeat([]byte(way[0]), deep), []byte("7"), bytes.Repeat([]byte(way[1]), deep))
		v, x := tree.Parse(b, deep)
		if x != (api.Verdict{Kind: api.Accept, At: len(b)}) || tree.Depth(v) != deep || tree.Twice(v) || !tree.Same(v, v) {
			t.Fatalf("%v, %d deep", x, tree.Depth(v))
		}
		p, begun, x := tree.Part(b[:len(b)-1], deep, false)
		if x != (api.Verdict{At: len(b) - 1}) || !begun || p.To != 0 || !tree.Same(v, p) {
			t.Fatalf("%v, %d deep", x, tree.Depth(p))
		}
		all := slices.Repeat([]api.Step{{Named: way[0] != "[", Name: "a"}}, deep)
		if y, ok := tree.At(v, all[1:]...); !ok || len(y.Items) != 1 || y.Items[0].Text != "7" {
			t.Fatalf("At = %v, %v", y, ok)
		}
		if y, ok := tree.At(v, all[0]); !ok || tree.Depth(y) != deep-1 || tree.Same(v, y) {
			t.Fatalf("At = %v, %d deep", ok, tree.Depth(y))
		}
		if _, x := tree.Parse(b, deep-1); x != (api.Verdict{Kind: api.TooDeep, At: (deep - 1) * len(way[0])}) {
			t.Fatalf("%v", x)
		}
	}
}
