package show_test

import (
	"bytes"
	"encoding/json"
	"math"
	"reflect"
	"runtime/debug"
	"strings"
	"testing"

	"riffle/api"
	"riffle/quote"
	"riffle/show"
	"riffle/tree"
)

// parse is the value of a text.
func parse(t *testing.T, s string) api.Value {
	t.Helper()
	v, x := tree.Parse([]byte(s), math.MaxInt)
	if x.Kind != api.Accept {
		t.Fatalf("Parse(%q): %v", s, x)
	}
	return v
}

// shown is a text, the one without blanks, and the one with lines.
type shown struct{ s, text, lines string }

// scalars have one text for both.
var scalars = map[string]string{
	`null`: `null`, `true`: `true`, ` false `: `false`,
	`0`: `0`, `-0`: `-0`, `12`: `12`, `-1.50E+07`: `-1.50E+07`, `1e0`: `1e0`, ` 0.10 `: `0.10`, `123456789012345678901234567890`: `123456789012345678901234567890`,
	`""`: `""`, `"a"`: `"a"`, `" a b "`: `" a b "`, `"null"`: `"null"`, `"12"`: `"12"`, `"[1, 2]"`: `"[1, 2]"`, `"\u0041"`: `"A"`, `"\/"`: `"/"`, `"/"`: `"/"`,
	`"\""`: `"\""`, `"\\"`: `"\\"`, `"\\\""`: `"\\\""`, `"\b\f\n\r\t"`: `"\b\f\n\r\t"`, `"\u0008\u000c\u000a\u000d\u0009"`: `"\b\f\n\r\t"`, `"\u0000\u001F"`: `"\u0000\u001f"`, "\"\x7f\"": "\"\x7f\"",
	`"\u00e9\u20ac"`: "\"\u00e9\u20ac\"", `"\ud83d\ude00"`: "\"\U0001f600\"", "\"\u00e9\U0001f600\"": "\"\u00e9\U0001f600\"", `"\u2028\ufffd<>&"`: "\"\u2028\ufffd<>&\"",
}

// holders are arrays and objects.
var holders = []shown{
	{`[]`, `[]`, `[]`}, {` [ ] `, `[]`, `[]`}, {`{}`, `{}`, `{}`}, {"{\n}", `{}`, `{}`},
	{`[1]`, `[1]`, "[\n  1\n]"}, {` [ 1 , 2 ] `, `[1,2]`, "[\n  1,\n  2\n]"}, {`["a, b"]`, `["a, b"]`, "[\n  \"a, b\"\n]"}, {`["\n"]`, `["\n"]`, "[\n  \"\\n\"\n]"},
	{`{"a":1}`, `{"a":1}`, "{\n  \"a\": 1\n}"}, {`{ "a" : 1 , "b" : true }`, `{"a":1,"b":true}`, "{\n  \"a\": 1,\n  \"b\": true\n}"},
	{`{"":""}`, `{"":""}`, "{\n  \"\": \"\"\n}"}, {`{"b":1,"a":2,"b":1,"b":3}`, `{"b":1,"a":2,"b":1,"b":3}`, "{\n  \"b\": 1,\n  \"a\": 2,\n  \"b\": 1,\n  \"b\": 3\n}"},
	{`{"\u0022\\\u0000\n\u20ac":null}`, "{\"\\\"\\\\\\u0000\\n\u20ac\":null}", "{\n  \"\\\"\\\\\\u0000\\n\u20ac\": null\n}"},
	{`{":":","}`, `{":":","}`, "{\n  \":\": \",\"\n}"},
	{`[[]]`, `[[]]`, "[\n  []\n]"}, {`[{}]`, `[{}]`, "[\n  {}\n]"}, {`[[],[]]`, `[[],[]]`, "[\n  [],\n  []\n]"}, {`{"a":[]}`, `{"a":[]}`, "{\n  \"a\": []\n}"}, {`{"a":{},"b":[]}`, `{"a":{},"b":[]}`, "{\n  \"a\": {},\n  \"b\": []\n}"},
	{`[[1]]`, `[[1]]`, "[\n  [\n    1\n  ]\n]"}, {`[[1,2],3]`, `[[1,2],3]`, "[\n  [\n    1,\n    2\n  ],\n  3\n]"}, {`[1,[2]]`, `[1,[2]]`, "[\n  1,\n  [\n    2\n  ]\n]"},
	{`[ 1, {"a" :2} ]`, `[1,{"a":2}]`, "[\n  1,\n  {\n    \"a\": 2\n  }\n]"},
	{`{"a":{"b":{"c":[]}}}`, `{"a":{"b":{"c":[]}}}`, "{\n  \"a\": {\n    \"b\": {\n      \"c\": []\n    }\n  }\n}"},
	{`{"a":[1,{"b":[2,[3,{}]],"c":"d"}],"e":{"":null}}`, `{"a":[1,{"b":[2,[3,{}]],"c":"d"}],"e":{"":null}}`,
		"{\n  \"a\": [\n    1,\n    {\n      \"b\": [\n        2,\n        [\n          3,\n          {}\n        ]\n      ],\n      \"c\": \"d\"\n    }\n  ],\n  \"e\": {\n    \"\": null\n  }\n}"},
}

// all has everything that is shown above.
func all() []shown {
	list := append([]shown(nil), holders...)
	for s, want := range scalars {
		list = append(list, shown{s, want, want})
	}
	return list
}

// P11.1: Text.
func TestText(t *testing.T) {
	for _, x := range all() {
		if got := show.Text(parse(t, x.s)); got != x.text {
			t.Errorf("Text of %s = %s, want %s", x.s, got, x.text)
		}
	}
}

// P11.1: Lines.
func TestLines(t *testing.T) {
	for _, x := range all() {
		if got := show.Lines(parse(t, x.s)); got != x.lines {
			t.Errorf("Lines of %s = %s, want %s", x.s, got, x.lines)
		}
	}
}

// P11.1: of a part of a value, wherever it stands: as if it were the whole one.
func TestParts(t *testing.T) {
	for _, x := range all() {
		for _, s := range []string{"[" + x.s + "]", `[0,[{"a":` + x.s + `},1]]`, `{"k":[` + x.s + `,` + x.s + `]}`} {
			v := parse(t, s)
			for v.Kind == api.Array || v.Kind == api.Object {
				isByWords(t, v)
				if v.Kind == api.Array && len(v.Items) > 0 && show.Text(v.Items[0]) == "0" && len(v.Items) == 2 {
					v = v.Items[1]
				} else if len(v.Items) > 0 {
					v = v.Items[0]
				} else {
					break
				}
			}
		}
		part := parse(t, `[0,{"a":[`+x.s+`]}]`).Items[1].Items[0].Items[0]
		if text, lines := show.Text(part), show.Lines(part); text != x.text || lines != x.lines {
			t.Errorf("of the part %s: Text %s, Lines %s", x.s, text, lines)
		}
	}
}

// byText is Text, by the chapter's words.
func byText(v api.Value) string {
	var items []string
	for i, item := range v.Items {
		if v.Kind == api.Object {
			items = append(items, quote.Put(v.Names[i])+":"+byText(item))
		} else {
			items = append(items, byText(item))
		}
	}
	switch v.Kind {
	case api.Array:
		return "[" + strings.Join(items, ",") + "]"
	case api.Object:
		return "{" + strings.Join(items, ",") + "}"
	case api.String:
		return quote.Put(v.Text)
	}
	return v.Text
}

// byLines is Lines, by the chapter's words, of a value that is in some arrays and objects.
func byLines(v api.Value, within int) string {
	begin, end := "[", "]"
	if v.Kind == api.Object {
		begin, end = "{", "}"
	}
	if len(v.Items) == 0 {
		return byText(v)
	}
	var items []string
	for i, item := range v.Items {
		name := ""
		if v.Kind == api.Object {
			name = quote.Put(v.Names[i]) + ": "
		}
		items = append(items, strings.Repeat("  ", within+1)+name+byLines(item, within+1))
	}
	return begin + "\n" + strings.Join(items, ",\n") + "\n" + strings.Repeat("  ", within) + end
}

// isByWords holds both texts of a value against the chapter's words, against the value that is read of them, and against the library.
func isByWords(t *testing.T, v api.Value) {
	t.Helper()
	text, lines := show.Text(v), show.Lines(v)
	if want := byText(v); text != want {
		t.Fatalf("Text = %s, want %s", text, want)
	}
	if want := byLines(v, 0); lines != want {
		t.Fatalf("Lines = %s, want %s", lines, want)
	}
	if !tree.Same(parse(t, text), v) || !tree.Same(parse(t, lines), v) {
		t.Fatalf("%s isn't the same value when read", text)
	}
	var indented bytes.Buffer
	if err := json.Indent(&indented, []byte(text), "", "  "); err != nil || indented.String() != lines {
		t.Fatalf("Lines = %s, the library has %s, %v", lines, indented.String(), err)
	}
}

// P11.1: of all values that are small, and of the texts above.
func TestSmallValues(t *testing.T) {
	for _, x := range all() {
		isByWords(t, parse(t, x.s))
	}
	leaves := []api.Value{{Kind: api.Null, Text: "null"}, {Kind: api.Number, Text: "-1.0"}, {Kind: api.String, Text: "\"\n"}, {Kind: api.Array}, {Kind: api.Object}}
	names := []string{"", "a", "\\"}
	values := leaves
	for range 2 {
		var next []api.Value
		for i, v := range values {
			w := values[(i*7+3)%len(values)]
			next = append(next,
				api.Value{Kind: api.Array, Items: []api.Value{v}},
				api.Value{Kind: api.Object, Items: []api.Value{v}, Names: names[i%3 : i%3+1]},
				api.Value{Kind: api.Array, Items: []api.Value{v, w}},
				api.Value{Kind: api.Array, Items: []api.Value{w, v, w}},
				api.Value{Kind: api.Object, Items: []api.Value{v, w}, Names: []string{names[i%3], names[i/3%3]}},
				api.Value{Kind: api.Object, Items: []api.Value{w, leaves[i%5], v}, Names: []string{"k", names[i%3], "k"}})
		}
		for _, v := range next {
			isByWords(t, v)
		}
		values = next
	}
}

// P11.1: where a value stands changes nothing, nor do nil lists and empty ones.
func TestPlacesAreNoPart(t *testing.T) {
	for _, v := range []api.Value{
		{Kind: api.Array, From: -5, To: math.MaxInt, Items: []api.Value{{Kind: api.Number, From: 9, To: 3, Text: "7"}}},
		{Kind: api.Array, Items: []api.Value{{Kind: api.Number, Text: "7"}}, Names: []string{}},
	} {
		if text, lines := show.Text(v), show.Lines(v); text != "[7]" || lines != "[\n  7\n]" {
			t.Errorf("Text %s, Lines %s", text, lines)
		}
	}
	for kind, want := range map[int]string{api.Array: "[]", api.Object: "{}"} {
		for _, v := range []api.Value{{Kind: kind}, {Kind: kind, Items: []api.Value{}, Names: []string{}}} {
			if text, lines := show.Text(v), show.Lines(v); text != want || lines != want {
				t.Errorf("Text %s, Lines %s, want %s", text, lines, want)
			}
		}
	}
}

// P1: values that no text has get an answer too.
func TestStrangeValues(t *testing.T) {
	lists := [][]api.Value{nil, {{}}, {{Kind: api.String, Text: "\xff"}, {Kind: 7, Text: "x"}}}
	for kind := -2; kind < 9; kind++ {
		for _, items := range lists {
			for _, names := range [][]string{nil, {"a"}, {"a", "\xff"}, {"a", "b", "c"}} {
				for _, at := range []int{math.MinInt, -1, 0, 1, math.MaxInt} {
					v := api.Value{Kind: kind, From: at, To: -at, Text: "\x00\xff", Items: items, Names: names}
					show.Text(v)
					show.Lines(v)
					show.Text(api.Value{Kind: api.Object, Items: []api.Value{v, v}})
					show.Lines(api.Value{Kind: api.Array, Items: []api.Value{v, v}})
					show.Bytes([]byte("abc"), v)
				}
			}
		}
	}
}

// P11.2: Bytes, at each pair of places in and around some bytes.
func TestBytes(t *testing.T) {
	for _, b := range []string{"", "a", "[1,2]", "\x00\xff\"\xc3", " {\"a\" : [ 1 ]} "} {
		places := []int{math.MinInt, math.MinInt + 1, -len(b) - 1, math.MaxInt - 1, math.MaxInt, 1 << 32, -1 << 32}
		for i := -2; i < len(b)+3; i++ {
			places = append(places, i)
		}
		for _, from := range places {
			for _, to := range places {
				want := ""
				for i := range len(b) {
					if i >= from && i < to && from >= 0 && to <= len(b) {
						want += b[i : i+1]
					}
				}
				if got := show.Bytes([]byte(b), api.Value{From: from, To: to}); got != want {
					t.Errorf("Bytes(%q, %d to %d) = %q, want %q", b, from, to, got, want)
				}
			}
		}
	}
	for _, b := range [][]byte{nil, {}} {
		if got := show.Bytes(b, api.Value{}); got != "" {
			t.Errorf("Bytes(%v) = %q", b, got)
		}
	}
}

// P11.2: what lies in spare room isn't there; a value's other fields don't matter.
func TestBytesAlone(t *testing.T) {
	b := []byte("abcdef")
	if got := show.Bytes(b[:3], api.Value{From: 2, To: 4}); got != "" {
		t.Errorf("Bytes = %q", got)
	}
	v := api.Value{Kind: api.Object, From: 1, To: 3, Text: "x", Items: []api.Value{{From: 0, To: 1}}, Names: []string{"y"}}
	if got := show.Bytes(b, v); got != "bc" {
		t.Errorf("Bytes = %q", got)
	}
	s := ` {"a" : [ 1 , "\u0041" ]} `
	whole := parse(t, s)
	for want, v := range map[string]api.Value{`{"a" : [ 1 , "\u0041" ]}`: whole, `[ 1 , "\u0041" ]`: whole.Items[0], `1`: whole.Items[0].Items[0], `"\u0041"`: whole.Items[0].Items[1]} {
		if got := show.Bytes([]byte(s), v); got != want {
			t.Errorf("Bytes = %s, want %s", got, want)
		}
	}
}

// P2 and the rules: what was handed in is not changed, nor kept, and calls stand alone.
func TestArgumentsStay(t *testing.T) {
	s := `{"a":[1,{"b":"\n"}],"a":[]}`
	v, same := parse(t, s), parse(t, s)
	spare := append(make([]api.Value, 0, 5), v.Items...)
	names := append(make([]string, 0, 5), v.Names...)
	v.Items, v.Names = spare, names
	text, lines := show.Text(v), show.Lines(v)
	if !reflect.DeepEqual(v, same) || !reflect.DeepEqual(spare[2:5], make([]api.Value, 3)) || !reflect.DeepEqual(names[2:5], make([]string, 3)) {
		t.Error("a value was changed")
	}
	if show.Text(v) != text || show.Lines(v) != lines {
		t.Error("two calls tell two texts")
	}
	b := []byte("abcdef")
	got := show.Bytes(b[:4], api.Value{From: 1, To: 3})
	if string(b) != "abcdef" {
		t.Error("bytes were changed")
	}
	b[1], v.Items[0] = 'x', api.Value{}
	if got != "bc" || text != s || show.Text(same) != s {
		t.Error("an answer hangs on what was handed in")
	}
}

// P1: a value may be deeper than calls may be.
func TestDeep(t *testing.T) {
	defer debug.SetMaxStack(debug.SetMaxStack(1 << 16))
	n := 300000
	for _, way := range [][2]string{{"[", "]"}, {`{"a":`, "}"}, {"[1,", "]"}} {
		s := strings.Repeat(way[0], n) + "[]" + strings.Repeat(way[1], n)
		if show.Text(parse(t, s)) != s {
			t.Errorf("Text of %s, %d deep", way[0], n)
		}
	}
	n = 2000
	lines := show.Lines(parse(t, strings.Repeat("[", n)+"1"+strings.Repeat("]", n)))
	if at := strings.IndexByte(lines, '1'); strings.Count(lines, "\n") != 2*n || lines[at-2*n-1:at] != "\n"+strings.Repeat("  ", n) || lines[len(lines)-2:] != "\n]" {
		t.Errorf("Lines, %d deep: %d lines", n, strings.Count(lines, "\n"))
	}
}
