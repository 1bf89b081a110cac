package query_test

import (
	"slices"
	"strings"
	"testing"

	"riffle/api"
	"riffle/query"
)

// The greatest integer and the one beyond it, in digits.
const (
	greatest = "9007199254740991"
	beyond   = "9007199254740992"
)

// any selects all.
var any = api.Selector{Kind: api.ByAny}

// name is a selector by name.
func name(s string) api.Selector { return api.Selector{Kind: api.ByName, Name: s} }

// index is a selector by index.
func index(i int) api.Selector { return api.Selector{Kind: api.ByIndex, Index: i} }

// stride is a slice without a start and an end.
func stride(n int) api.Selector { return api.Selector{Kind: api.BySlice, Stride: n} }

// from is a slice with a start, too; to is one with an end, too.
func from(n int, s api.Selector) api.Selector {
	s.Start, s.HasStart = n, true
	return s
}

func to(n int, s api.Selector) api.Selector {
	s.End, s.HasEnd = n, true
	return s
}

// of is a segment that isn't Deep; below is one that is.
func of(l ...api.Selector) api.Segment { return api.Segment{Selectors: l} }

func below(l ...api.Selector) api.Segment { return api.Segment{Deep: true, Selectors: l} }

// same tells whether two queries are one, a nil list and an empty one being the same.
func same(a, b api.Query) bool {
	return slices.EqualFunc(a, b, func(x, y api.Segment) bool {
		return x.Deep == y.Deep && slices.Equal(x.Selectors, y.Selectors)
	})
}

// reads tells whether a text is a query's, and of which segments.
func reads(t *testing.T, s string, want ...api.Segment) {
	t.Helper()
	if q, ok := query.Parse(s); !ok || !same(q, want) {
		t.Fatalf("Parse(%q) = %+v, %v, want %+v, true", s, q, ok, want)
	}
}

// refused tells whether texts are no query's.
func refused(t *testing.T, list ...string) {
	t.Helper()
	for _, s := range list {
		if q, ok := query.Parse(s); ok || len(q) != 0 {
			t.Fatalf("Parse(%q) = %+v, %v, want none", s, q, ok)
		}
	}
}

// whole has texts and the queries that they are.
func whole() map[string]api.Query {
	return map[string]api.Query{
		"$":                 nil,
		"$.a[1:, 'x']..*":   {of(name("a")), of(from(1, stride(1)), name("x")), below(any)}, // the chapter's example
		"$.a":               {of(name("a"))},
		"$..a":              {below(name("a"))},
		"$.*":               {of(any)},
		"$..*":              {below(any)},
		"$[*]":              {of(any)},
		"$..[*]":            {below(any)},
		"$[0]":              {of(index(0))},
		"$..[0]":            {below(index(0))},
		"$['a']":            {of(name("a"))},
		`$["a"]`:            {of(name("a"))},
		`$..['a',"b"]`:      {below(name("a"), name("b"))},
		"$[:]":              {of(stride(1))},
		"$..[::]":           {below(stride(1))},
		"$.a.b":             {of(name("a")), of(name("b"))},
		"$.a..b":            {of(name("a")), below(name("b"))},
		"$..a.b":            {below(name("a")), of(name("b"))},
		"$..a..b":           {below(name("a")), below(name("b"))},
		"$.*.*":             {of(any), of(any)},
		"$.*..*[*]..[*]":    {of(any), below(any), of(any), below(any)},
		"$[0][1]":           {of(index(0)), of(index(1))},
		"$[0,1]":            {of(index(0), index(1))},
		"$[0,0,0]":          {of(index(0), index(0), index(0))},
		"$[0].a":            {of(index(0)), of(name("a"))},
		"$.a[0]":            {of(name("a")), of(index(0))},
		"$.ab.ab":           {of(name("ab")), of(name("ab"))},
		"$[*,*]":            {of(any, any)},
		"$[1,*,'a',::2]":    {of(index(1), any, name("a"), stride(2))},
		"$[::2,'a',*,1]":    {of(stride(2), name("a"), any, index(1))},
		"$[-1,-2:,:-3]":     {of(index(-1), from(-2, stride(1)), to(-3, stride(1)))},
		"$[1:2:3,4:5:6]":    {of(from(1, to(2, stride(3))), from(4, to(5, stride(6))))},
		"$[1:2:3][4:5:6]":   {of(from(1, to(2, stride(3)))), of(from(4, to(5, stride(6))))},
		"$['a','b','c']":    {of(name("a"), name("b"), name("c"))},
		"$['a']['b']..['']": {of(name("a")), of(name("b")), below(name(""))},
		"$['a.b'].c":        {of(name("a.b")), of(name("c"))},
		"$[']'][\"[\"]":     {of(name("]")), of(name("["))},
		"$['a,b','*',':']":  {of(name("a,b"), name("*"), name(":"))},
		"$['0','-1','1:2']": {of(name("0"), name("-1"), name("1:2"))},
		"$['$']":            {of(name("$"))},
		"$.true.null":       {of(name("true")), of(name("null"))},
	}
}

// P14.1 and P14.2: whole queries, of each kind of segment and selector, alone and beside others.
func TestWhole(t *testing.T) {
	for s, want := range whole() {
		reads(t, s, want...)
	}
}

// P14.1: what begins a query, and what ends it.
func TestRoot(t *testing.T) {
	reads(t, "$")
	refused(t, "", " ", "\n", "a", "a.b", ".a", "..a", "[0]", "['a']", "*", "@", "@.a", "$$", "$$.a", "$.a$", "$.a.$", "$*", "$a", "$0", "$'a'", "$-", "$,", "$]", "$:")
	refused(t, " $", "\t$", "\n$.a", "\r$", "  $[0]", "a$", "\x00$", "\xef\xbb\xbf$", "\ufe69", "\uff04.a")
	for s := range whole() {
		refused(t, " "+s, s+" ", s+"\t", s+"\n", s+"\r", s+"  ", s+"\x00", s+"$", s+",", s+"]", s+"'", s+"[", s+".", s+"..", s+"...", s+" .", s+".[0]")
	}
}

// P14.1: blanks ahead of each kind of segment: each of them, one, several and none.
func TestBlanksAheadOfSegments(t *testing.T) {
	for _, blanks := range []string{"", " ", "\t", "\n", "\r", "  ", "\r\n", " \t\n\r", "\n\n\n", strings.Repeat(" \r\t\n", 50)} {
		for text, segment := range map[string]api.Segment{".a": of(name("a")), ".*": of(any), "..a": below(name("a")), "..*": below(any), "[0]": of(index(0)), "['a']": of(name("a")), "[1:]": of(from(1, stride(1))), "..[*]": below(any), "..[0,'b']": below(index(0), name("b"))} {
			reads(t, "$"+blanks+text, segment)
			reads(t, "$.x"+blanks+text, of(name("x")), segment)
			reads(t, "$"+blanks+text+blanks+text+blanks+"[7]", segment, segment, of(index(7)))
			reads(t, "$[7]"+blanks+text+blanks+"..y", of(index(7)), segment, below(name("y")))
			if blanks != "" {
				refused(t, "$"+blanks, "$"+text+blanks, "$.x"+blanks, blanks+"$"+text)
			}
		}
	}
}

// strangers are signs that look blank, or are not seen at all, and are not blank.
var strangers = []string{"\x00", "\v", "\f", "\b", "\x1f", "\x7f", "\u0085", "\u00a0", "\u1680", "\u2003", "\u2028", "\u2029", "\u200b", "\u3000", "\ufeff", "/", "//", "#"}

// P14.1: signs that look blank are none, wherever blanks may stand.
func TestStrangers(t *testing.T) {
	for _, c := range strangers {
		for _, s := range []string{"$#", "#$", "$#.a", "$#[0]", "$.a#[0]#", "$[#0]", "$[0#]", "$[0,#1]", "$[0#,1]", "$[#*]", "$[*#]", "$['a'#]", "$[#'a']", "$[0#:]", "$[:#0]", "$[0:1#:2]", "$[0:1:#2]", "$[0:1:2#]", "$.#*"} {
			refused(t, strings.ReplaceAll(s, "#", c))
		}
		if c[0] < 128 {
			refused(t, "$."+c, "$."+c+"a", "$.."+c+"a", "$.."+c+"*", "$.."+c+"[0]", "$.a"+c+".b")
		}
	}
	// A sign from 128 on is one of a plain name, though.
	reads(t, "$.a\u00a0", of(name("a\u00a0")))
	reads(t, "$.\u2003.a", of(name("\u2003")), of(name("a")))
}

// P14.1: a segment in brackets: its selectors, commas and blanks.
func TestBrackets(t *testing.T) {
	for _, b := range []string{"", " ", "\t", "\n", "\r", "   ", "\r\n\t "} {
		for text, s := range map[string]api.Selector{"*": any, "0": index(0), "-12": index(-12), "'a'": name("a"), `""`: name(""), ":": stride(1), "1:": from(1, stride(1)), ":-1": to(-1, stride(1)), "::-1": stride(-1), "1:2:3": from(1, to(2, stride(3)))} {
			reads(t, "$["+b+text+b+"]", of(s))
			reads(t, "$..["+b+text+b+"]", below(s))
			reads(t, "$["+b+text+b+","+b+text+"]", of(s, s))
			reads(t, "$["+text+b+","+b+"'x'"+b+","+b+text+b+"].y", of(s, name("x"), s), of(name("y")))
			for _, wrong := range []string{"$[#,]", "$[,#]", "$[#,,#]", "$[,]", "$[,,]", "$[]", "$[# #]", "$[##]", "$[#", "$[#,", "$[#,#", "$[#,#,", "$[", "$..[", "$..[]", "$..[#", "$[[#]]", "$[#]]", "$[#)", "$(#)", "$[#;#]", "$[#.#]", "$#]", "$.#]"} {
				if (wrong == "$[##]" || wrong == "$[# #]") && strings.Contains(text, ":") {
					continue // two slices may be one
				}
				refused(t, strings.ReplaceAll(strings.ReplaceAll(wrong, "#", b+text+b), "[]", "["+b+"]"))
			}
		}
	}
	refused(t, "$[a]", "$[*a]", "$[a*]", "$[**]", "$[* *]", "$[*:]", "$[:*]", "$['a':]", "$[:'a']", "$['a':'b']", "$[0'a']", "$['a'0]", "$[true]", "$[null]", "$[$]", "$[@]", "$[.]", "$[..]", "$[.a]", "$[?@]", "$[?@.a]", "$[?(@.a)]", "$[(@.length-1)]", "$[`a`]", "$[\u2019a\u2019]", "$[0..1]")
}

// P14.1 and P14.2: `.` and `..`, and what may stand behind them.
func TestDots(t *testing.T) {
	refused(t, "$.", "$..", "$...", "$....", "$...a", "$....a", "$...*", "$...[0]", "$.a.", "$.a..", "$.a...b", "$.*.", "$.*..", "$.. .a", "$. .a", "$. ..a")
	refused(t, "$.[0]", "$.['a']", "$.[*]", "$.[:]", "$.a.[0]", "$.[]", "$.\"a\"", "$.'a'", "$..'a'", "$..\"a\"", "$.$", "$..$", "$.@", "$.,", "$.]", "$.a]", "$..:", "$.?a", "$.(a)", "$.a()", "$..a()")
	for _, b := range []string{" ", "\t", "\n", "\r", "  "} {
		refused(t, "$."+b, "$.."+b, "$."+b+"a", "$.."+b+"a", "$."+b+"*", "$.."+b+"*", "$."+b+"[0]", "$.."+b+"[0]", "$."+b+".a", "$.a."+b+"b")
		reads(t, "$..["+b+"0"+b+","+b+"'a'"+b+"]", below(index(0), name("a")))
	}
	refused(t, "$.**", "$..**", "$.*a", "$.a*", "$.*0", "$.*_", "$.**.a", "$.* *", "$.a b", "$.a'b'", "$.*'b'", "$.*,*", "$.a,b", "$.a,'b'", "$.0", "$.1:2")
}

// P14.1: plain names: what they begin with, and what goes on in them.
func TestPlainNames(t *testing.T) {
	for _, s := range []string{"a", "z", "A", "Z", "m", "Q", "_", "\u0080", "\u00e9", "\u07ff", "\u0800", "\u20ac", "\ud7ff", "\ue000", "\ufffd", "\uffff", "\U00010000", "\U0001f600", "\U0010ffff"} {
		for _, tail := range []string{"", "a", "Z", "_", "0", "9", "10", "0a", "_1", "\u0080", "\u20ac0", "\U0001f600", "azAZ_09\u00e9\ufffd\U0010ffff"} {
			reads(t, "$."+s+tail, of(name(s+tail)))
			reads(t, "$.."+s+tail, below(name(s+tail)))
			reads(t, "$."+s+tail+"."+s+"[0].."+s+tail+s, of(name(s+tail)), of(name(s)), of(index(0)), below(name(s+tail+s)))
			refused(t, "$["+s+tail+"]", "$"+s+tail, "$.0"+s+tail, "$.-"+s+tail, "$. "+s+tail, "$."+s+tail+"-", "$."+s+"-"+tail)
		}
	}
	refused(t, "$.0", "$.9", "$.0a", "$.1a", "$.9_", "$..0", "$..0a", "$..9\u00e9", "$.-", "$.-1", "$.-a", "$..-", "$..-a", "$.a-b", "$.a-", "$.+", "$.a+1")
}

// P14.1: each byte at the beginning of a plain name, and further on.
func TestBytesOfPlainNames(t *testing.T) {
	for c := range 128 {
		b := string(rune(c))
		begins := c == '_' || c >= 'a' && c <= 'z' || c >= 'A' && c <= 'Z'
		if begins {
			reads(t, "$."+b, of(name(b)))
			reads(t, "$.."+b, below(name(b)))
		} else if c != '*' && c != '.' {
			refused(t, "$."+b+"x", "$.."+b+"x", "$."+b)
		}
		switch {
		case begins || c >= '0' && c <= '9':
			reads(t, "$.x"+b, of(name("x"+b)))
			reads(t, "$..x"+b+"y", below(name("x"+b+"y")))
		case strings.IndexByte(". \t\n\r[", byte(c)) < 0:
			refused(t, "$.x"+b, "$.x"+b+"y", "$..x"+b+"y", "$.x"+b+".y")
		}
	}
}

// P14.1: each sign from 128 on, in a plain name and in quoted ones; elsewhere there is none.
func TestEachSign(t *testing.T) {
	for n := rune(128); n <= 0x10ffff; n++ {
		if n >= 0xd800 && n < 0xe000 || n > 0x3000 && n%11 != 0 && n < 0x10fff0 {
			continue
		}
		s := string(n)
		reads(t, "$."+s+".."+s+"0"+s, of(name(s)), below(name(s+"0"+s)))
		reads(t, "$['"+s+"',\""+s+s+"\"]", of(name(s), name(s+s)))
		refused(t, s+"$.a", "$"+s+".a", "$["+s+"]", "$[0"+s+"]", "$[-"+s+"]", "$[0:"+s+"1]", "$['\\"+s+"']", "$["+s+"'a']", "$[\"\\u004"+s+"\"]")
	}
}

// P14.1: bytes that are no UTF-8: in a plain name, in a quoted one, and elsewhere.
func TestStrangeBytes(t *testing.T) {
	for _, b := range []string{"\x80", "\xbf", "\xc0", "\xc1", "\xf5", "\xfe", "\xff", "\xc2", "\xc3", "\xdf", "\xe2", "\xe2\x82", "\xf0\x9f", "\xf0\x9f\x98", "\xf4", "\xc0\x80", "\xc1\xbf", "\xe0\x80\x80", "\xe0\x9f\xbf", "\xf0\x8f\xbf\xbf", "\xf4\x90\x80\x80", "\xf8\x88\x80\x80\x80", "\xed\xa0\x80", "\xed\xbf\xbf", "\xed\xa0\xbd\xed\xb8\x80", "\u00e9\x80", "\xc3\u00e9"} {
		for _, s := range []string{"#", "#$", "$#", "$.#", "$..#", "$.a#", "$.#a", "$.a#a", "$.a#.b", "$.#\u00e9", "$.\u00e9#", "$['#']", "$['a#a']", "$['#", "$[\"#\"]", "$[\"\u20ac#\"]", "$[\"#\u20ac\"]", "$['a\\#']", "$['#\\'']", "$['#\\\\']", "$['\\u#004']", "$['\\u004#']", "$[#]", "$[0#]", "$[#0]", "$[0,#]", "$[0:#]", "$[0]#", "$[0]#.a", "$.a #", "$.*#", "$['a'#]", "$[-#1]"} {
			refused(t, strings.ReplaceAll(s, "#", b))
		}
	}
}

// P14.2: fields that a selector hasn't are zero, however the ones beside it are.
func TestOtherFieldsAreZero(t *testing.T) {
	full := "-5:-6:-7"
	for text, want := range map[string]api.Selector{"*": {Kind: 1}, "3": {Kind: 2, Index: 3}, "'a'": {Name: "a"}, `"a"`: {Name: "a"}, "''": {}, "0": {Kind: 2}, ":": {Kind: 3, Stride: 1}, "0:": {Kind: 3, HasStart: true, Stride: 1}, ":0": {Kind: 3, HasEnd: true, Stride: 1}, "0:0:0": {Kind: 3, HasStart: true, HasEnd: true}, "::0": {Kind: 3}} {
		big := api.Selector{Kind: 3, Start: -5, End: -6, HasStart: true, HasEnd: true, Stride: -7}
		reads(t, "$["+full+","+text+","+full+"]", of(big, want, big))
		reads(t, "$["+text+"]['x',9,"+text+"]", of(want), of(name("x"), index(9), want))
	}
	reads(t, "$['x',9,-5:-6:-7].*..*.a..a", of(name("x"), index(9), from(-5, to(-6, stride(-7)))), of(any), below(any), of(name("a")), below(name("a")))
}
