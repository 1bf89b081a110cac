package path_test

import (
	"math"
	"regexp"
	"slices"
	"strconv"
	"strings"
	"testing"
	"unicode/utf8"

	"riffle/api"
	"riffle/path"
)

// greatest is the greatest index, in digits.
const greatest = "9007199254740991"

// named is a step by name.
func named(s string) api.Step { return api.Step{Named: true, Name: s} }

// at is a step by index.
func at(i int) api.Step { return api.Step{Index: i} }

// written has the signs that a name doesn't have as they are, by the chapter's words.
var written = map[rune]string{
	0: `\u0000`, 1: `\u0001`, 2: `\u0002`, 3: `\u0003`, 4: `\u0004`, 5: `\u0005`, 6: `\u0006`, 7: `\u0007`,
	8: `\b`, 9: `\t`, 10: `\n`, 11: `\u000b`, 12: `\f`, 13: `\r`, 14: `\u000e`, 15: `\u000f`,
	16: `\u0010`, 17: `\u0011`, 18: `\u0012`, 19: `\u0013`, 20: `\u0014`, 21: `\u0015`, 22: `\u0016`, 23: `\u0017`,
	24: `\u0018`, 25: `\u0019`, 26: `\u001a`, 27: `\u001b`, 28: `\u001c`, 29: `\u001d`, 30: `\u001e`, 31: `\u001f`,
	39: `\'`, 92: `\\`,
}

// names are names of UTF-8, and how they are written.
var names = map[string]string{
	"": `''`, "a": `'a'`, "abc": `'abc'`, "0": `'0'`, " ": `' '`, "  ": `'  '`, "a b": `'a b'`, "*": `'*'`, "$": `'$'`, "..": `'..'`, "@": `'@'`,
	"'": `'\''`, "''": `'\'\''`, `\`: `'\\'`, `\\`: `'\\\\'`, `\'`: `'\\\''`, `'\`: `'\'\\'`, "a'b": `'a\'b'`, `a\b`: `'a\\b'`, `\n`: `'\\n'`, `\u0041`: `'\\u0041'`, `\u000b`: `'\\u000b'`,
	`"`: `'"'`, "/": `'/'`, "\x7f": "'\x7f'", "\"/\x7f": "'\"/\x7f'", "&(": `'&('`, "[]": `'[]'`, "^": `'^'`, "]": `']'`, "x]": `'x]'`, "']": `'\']'`, "']['": `'\'][\''`, "$['a'][0]": `'$[\'a\'][0]'`,
	"\b\t\n\f\r": `'\b\t\n\f\r'`, "\x00\v\x1f": `'\u0000\u000b\u001f'`, "a\nb": `'a\nb'`, "\na": `'\na'`, "a\n": `'a\n'`, "a\x00b\x0fc": `'a\u0000b\u000fc'`, "btnfru": `'btnfru'`, "\b1\x010\n0": `'\b1\u00010\n0'`,
	"\u0080": "'\u0080'", "\u00e9": "'\u00e9'", "\u07ff": "'\u07ff'", "\u0800": "'\u0800'", "\u20ac": "'\u20ac'", "\u2028\u2029": "'\u2028\u2029'", "\ud7ff\ue000": "'\ud7ff\ue000'", "\ufeff": "'\ufeff'", "\ufffd": "'\ufffd'", "\uffff": "'\uffff'", "\U00010000": "'\U00010000'", "\U0001f600": "'\U0001f600'", "\U0010ffff": "'\U0010ffff'",
	"a\u00e9\n\u20ac'\U0001f600\\": "'a\u00e9\\n\u20ac\\'\U0001f600\\\\'",
}

// strange are pieces of bytes where no sign of UTF-8 stands, and how many bytes these are.
var strange = map[string]int{
	"\x80": 1, "\xbf": 1, "\xc0": 1, "\xc1": 1, "\xf5": 1, "\xfe": 1, "\xff": 1, "\xff\xff": 2, "\x80\x80\x80": 3,
	"\xc2": 1, "\xdf": 1, "\xe2": 1, "\xe2\x82": 2, "\xf0": 1, "\xf0\x9f": 2, "\xf0\x9f\x98": 3, "\xf4": 1, "\xc3\xc3": 2, "\xe2\xe2\x82": 3, "\xf0\x9f\xe2\x82": 4,
	"\xc0\x80": 2, "\xc0\xa7": 2, "\xc1\xbf": 2, "\xe0\x80\x80": 3, "\xe0\x9f\xbf": 3, "\xf0\x80\x80\x80": 4, "\xf0\x8f\xbf\xbf": 4, "\xf4\x90\x80\x80": 4, "\xf8\x88\x80\x80\x80": 5,
	"\xed\xa0\x80": 3, "\xed\xaf\xbf": 3, "\xed\xb0\x80": 3, "\xed\xbf\xbf": 3, "\xed\xa0\xbd\xed\xb8\x80": 6,
}

// nameByWords is Name, by the chapter's words.
func nameByWords(s string) string {
	text := "'"
	for s != "" {
		n, size := utf8.DecodeRuneInString(s)
		escape, is := written[n]
		switch {
		case is:
			text += escape
		case n == utf8.RuneError && size == 1:
			text += "\ufffd"
		default:
			text += s[:size]
		}
		s = s[size:]
	}
	return text + "'"
}

// rightByWords is Right, by the chapter's words.
func rightByWords(s api.Step) bool {
	if s.Named {
		return utf8.ValidString(s.Name) && s.Index == 0
	}
	return s.Name == "" && s.Index >= 0 && s.Index <= 1<<53-1
}

// putByWords is Put, by the chapter's words.
func putByWords(l []api.Step) string {
	text := "$"
	for _, s := range l {
		if !rightByWords(s) {
			return ""
		}
		text += "["
		if s.Named {
			text += nameByWords(s.Name)
		} else {
			text += strconv.Itoa(s.Index)
		}
		text += "]"
	}
	return text
}

// The normalized paths of RFC 9535, in its own words: whole ones, and the steps in them.
var (
	normal = regexp.MustCompile(`^\$(\[(0|[1-9][0-9]*|'([^\x00-\x1f'\\]|\\[btnfr'\\]|\\u00(0[0-7bef]|1[0-9a-f]))*')\])*\z`)
	step   = regexp.MustCompile(`\[([0-9]+|'([^'\\]|\\.)*')\]`)
	sign   = regexp.MustCompile(`\\u00..|\\.|[^\\]`)
)

// parseByWords is Parse, by the RFC's grammar of normalized paths.
func parseByWords(s string) ([]api.Step, bool) {
	if !utf8.ValidString(s) || !normal.MatchString(s) {
		return nil, false
	}
	var l []api.Step
	for _, m := range step.FindAllStringSubmatch(s, -1) {
		if m[1][0] != '\'' {
			i, err := strconv.ParseInt(m[1], 10, 64)
			if err != nil || i > 1<<53-1 {
				return nil, false
			}
			l = append(l, at(int(i)))
			continue
		}
		l = append(l, named(sign.ReplaceAllStringFunc(m[1][1:len(m[1])-1], unescaped)))
	}
	return l, true
}

// unescaped is what one sign of a path's name stands for.
func unescaped(s string) string {
	for n, escape := range written {
		if s == escape {
			return string(n)
		}
	}
	return s
}

// reads tells whether Parse of a text is what is wanted; of no steps wanted, with ok false, that there are none.
func reads(t *testing.T, s string, want []api.Step, ok bool) {
	t.Helper()
	if l, is := path.Parse(s); is != ok || !slices.Equal(l, want) {
		t.Fatalf("Parse(%q) = %+v, %v, want %+v, %v", s, l, is, want, ok)
	}
}

// readsByWords tells whether Parse of a text is what the grammar says.
func readsByWords(t *testing.T, s string) {
	t.Helper()
	want, ok := parseByWords(s)
	reads(t, s, want, ok)
}

// refused tells whether there are no steps of which a text is Put.
func refused(t *testing.T, list ...string) {
	t.Helper()
	for _, s := range list {
		reads(t, s, nil, false)
	}
}

// whole are steps, and their paths.
func whole() map[string][]api.Step {
	all := map[string][]api.Step{
		"$": nil, "$[0]": {at(0)}, "$[1]": {at(1)}, "$[9]": {at(9)}, "$[10]": {at(10)}, "$[42]": {at(42)}, "$[100]": {at(100)}, "$[1234567890]": {at(1234567890)},
		"$[4294967296]": {at(1 << 32)}, "$[9007199254740990]": {at(api.MaxInt - 1)}, "$[" + greatest + "]": {at(api.MaxInt)},
		"$['a\\'b'][0]": {named("a'b"), at(0)}, // the chapter's example
		"$[0][0]":       {at(0), at(0)}, "$[1][0][2]": {at(1), at(0), at(2)}, "$[" + greatest + "][0]": {at(api.MaxInt), at(0)},
		"$['']['']": {named(""), named("")}, "$['a']['b']": {named("a"), named("b")}, "$['a']['a']['a']": {named("a"), named("a"), named("a")},
		"$['a'][0]['b'][12]": {named("a"), at(0), named("b"), at(12)}, "$[3]['x]'][0]": {at(3), named("x]"), at(0)}, "$['0'][0]": {named("0"), at(0)}, "$['a'][0]['\\n']": {named("a"), at(0), named("\n")},
	}
	for name, text := range names {
		all["$["+text+"]"] = []api.Step{named(name)}
		all["$[7]["+text+"]"] = []api.Step{at(7), named(name)}
		all["$["+text+"][0]["+text+"]"] = []api.Step{named(name), at(0), named(name)}
	}
	return all
}

// P13.1: Put; P13.2: Parse of what Put wrote, with each of the names.
func TestPutAndParse(t *testing.T) {
	for want, l := range whole() {
		if got := path.Put(l...); got != want {
			t.Errorf("Put(%+v) = %s, want %s", l, got, want)
		}
		reads(t, want, l, true)
	}
}

// P13.1: Put of no steps, however it is called.
func TestPutOfNoSteps(t *testing.T) {
	for _, got := range []string{path.Put(), path.Put(nil...), path.Put([]api.Step{}...)} {
		if got != "$" {
			t.Errorf("Put of no steps = %q", got)
		}
	}
}

// wrong are steps that aren't right.
func wrong() []api.Step {
	all := []api.Step{
		at(-1), at(-2), at(-api.MaxInt), at(math.MinInt), at(api.MaxInt + 1), at(1 << 54), at(math.MaxInt),
		{Name: "a"}, {Name: " "}, {Name: "\x00"}, {Name: "0"}, {Name: "a", Index: 1}, {Name: "a", Index: -1}, {Name: "\xff"},
		{Named: true, Index: 1}, {Named: true, Index: -1}, {Named: true, Index: api.MaxInt}, {Named: true, Index: math.MinInt}, {Named: true, Index: math.MaxInt}, {Named: true, Name: "a", Index: 1}, {Named: true, Name: "a", Index: -1},
	}
	for bytes := range strange {
		all = append(all, named(bytes), named("a"+bytes), named(bytes+"b"), named("\u00e9"+bytes+"\u20ac"))
	}
	return all
}

// P13.2: Right of steps that are right, and of such as aren't.
func TestRight(t *testing.T) {
	for _, l := range whole() {
		for _, s := range l {
			if !path.Right(s) {
				t.Errorf("Right(%+v) = false", s)
			}
		}
	}
	for _, s := range []api.Step{{}, at(0), at(1), at(api.MaxInt), {Named: true}, named("a"), named("\x00"), named("'"), named("\x7f"), named("\ufffd"), named("\U0010ffff")} {
		if !path.Right(s) {
			t.Errorf("Right(%+v) = false", s)
		}
	}
	for _, s := range wrong() {
		if path.Right(s) {
			t.Errorf("Right(%+v) = true", s)
		}
	}
}

// P13.2: Right of each number of bits and beside it, with and without Named, with and without a name.
func TestRightByWords(t *testing.T) {
	for bit := range 64 {
		for beside := -2; beside <= 2; beside++ {
			for _, i := range []int{1<<bit + beside, -(1 << bit) + beside} {
				for _, name := range []string{"", "a", "\u20ac", "\xff"} {
					for _, is := range []bool{false, true} {
						s := api.Step{Named: is, Name: name, Index: i}
						if got := path.Right(s); got != rightByWords(s) {
							t.Fatalf("Right(%+v) = %v", s, got)
						}
						if got, want := path.Put(s), putByWords([]api.Step{s}); got != want {
							t.Fatalf("Put(%+v) = %q, want %q", s, got, want)
						}
					}
				}
			}
		}
	}
}

// P13.1: Put is empty, if a step isn't right: the only one, the first, one in the middle, the last, or all.
func TestPutOfWrongSteps(t *testing.T) {
	for _, s := range wrong() {
		a, b := named("a"), at(0)
		for _, l := range [][]api.Step{{s}, {s, a}, {s, b}, {a, s}, {b, s}, {s, a, b}, {a, s, b}, {a, b, s}, {b, a, s, a, b}, {s, s}, {s, a, s}} {
			if got := path.Put(l...); got != "" {
				t.Fatalf("Put(%+v) = %q, want none", l, got)
			}
		}
	}
}

// P13.1: Name.
func TestName(t *testing.T) {
	for s, want := range names {
		if got := path.Name(s); got != want {
			t.Errorf("Name(%q) = %s, want %s", s, got, want)
		}
	}
}

// P13.1 and P13.2: each sign that there is, alone and among others, as Name, and in a path.
func TestEachSign(t *testing.T) {
	for n := rune(0); n <= utf8.MaxRune; n++ {
		if !utf8.ValidRune(n) {
			continue
		}
		s, want := string(n), string(n)
		if escape, is := written[n]; is {
			want = escape
		}
		if got := path.Name(s); got != "'"+want+"'" {
			t.Fatalf("Name(%q) = %s", s, got)
		}
		if n >= 0x3000 && n%7 != 0 {
			continue
		}
		if got := path.Name("a" + s + s + "b"); got != "'a"+want+want+"b'" {
			t.Fatalf("Name of %q among others = %s", s, got)
		}
		l := []api.Step{named(s), at(int(n)), named("a" + s + s)}
		p := "$['" + want + "'][" + strconv.Itoa(int(n)) + "]['a" + want + want + "']"
		if got := path.Put(l...); got != p {
			t.Fatalf("Put(%+v) = %s", l, got)
		}
		reads(t, p, l, true)
	}
}

// P13.1: where no sign of UTF-8 stands, each byte is the sign 0xFFFD: alone, at the beginning, in the middle and at the end, and several times.
func TestNameOfStrangeBytes(t *testing.T) {
	for s, count := range strange {
		sub := strings.Repeat("\ufffd", count)
		for name, want := range map[string]string{
			s: sub, s + "b": sub + "b", "a" + s: "a" + sub, "a" + s + "b": "a" + sub + "b", "'" + s + "'": `\'` + sub + `\'`, "\n" + s + `\`: `\n` + sub + `\\`,
			"\u00e9" + s + "\u20ac": "\u00e9" + sub + "\u20ac", "\U0001f600" + s: "\U0001f600" + sub, "\ufffd" + s + "\ufffd": "\ufffd" + sub + "\ufffd",
			s + "a" + s: sub + "a" + sub, s + "\x00" + s + "b" + s: sub + `\u0000` + sub + "b" + sub,
		} {
			if got := path.Name(name); got != "'"+want+"'" {
				t.Errorf("Name(%q) = %q, want %q", name, got, want)
			}
			refused(t, "$['"+name+"']")
		}
	}
	if got := path.Name("a\xffb"); got != "'a\ufffdb'" {
		t.Errorf("Name = %q", got)
	}
}

// P13.1: Name by the chapter's words, of all texts of up to four bytes from among those at an edge.
func TestNameByWords(t *testing.T) {
	edges := "\x00\x08\x1f '[\\]bu\x7f\x80\x8f\x90\x9f\xa0\xbf\xc1\xc2\xe0\xe2\xed\xf0\xf4\xf5\xff"
	short := []string{""}
	for range 4 {
		var longer []string
		for _, s := range short {
			for i := range len(edges) {
				name := s + edges[i:i+1]
				if got, want := path.Name(name), nameByWords(name); got != want {
					t.Fatalf("Name(%q) = %q, want %q", name, got, want)
				}
				longer = append(longer, name)
			}
		}
		short = longer
	}
}

// P13.2: texts that are no paths, by what is wrong with them.
func TestParseOfOthers(t *testing.T) {
	refused(t, "", "a", "0", "[0]", "['a']", "$$", "a$", "\x00", "\xff", "@", "@[0]") // no root ahead
	refused(t, "$a", "$0", "$.", "$.a", "$.*", "$..a", "$..[0]", "$.['a']", "$]", "$'a'", "$[0]$", "$[0]x", "$['a']x", "$['a']'", "$[0]]", "$['a']]", "$[0].a", "$[0]\x00", "$\x00", "$\xff")
	refused(t, "$[", "$[0", "$[12", "$['a'", "$[0][", "$['a'][", "$[0][1", "$['a']['b'", "$[0]['b") // a bracket isn't closed
	refused(t, "$[]", "$[][0]", "$[0][]", "$['a'][]", "$[[]]", "$[[0]]", "$[['a']]")                // empty ones, and such within
	refused(t, "$[00]", "$[01]", "$[007]", "$[0][01]", "$[00000000000000000001]", "$[0"+greatest+"]", "$[-0]", "$[-1]", "$[-12]", "$[+0]", "$[+1]", "$[--1]", "$[-]", "$[+]")
	refused(t, "$[9007199254740992]", "$[9007199254740993]", "$[9999999999999999]", "$[9223372036854775807]", "$[9223372036854775808]", "$[18446744073709551615]", "$[18446744073709551616]", "$[18446744073709551617]", "$[99999999999999999999]", "$["+strings.Repeat("9", 100000)+"]", "$["+strings.Repeat("0", 100000)+"]", "$["+greatest+"0]")
	refused(t, "$[1e0]", "$[1.0]", "$[1.]", "$[0x1]", "$[1_0]", "$[1a]", "$[a1]", "$[a]", "$[*]", "$[:]", "$[0:1]", "$[0,1]", "$[0,]", "$[\u0661]", "$[\uff11]", "$[null]", "$[?@]", "$[1\x00]", "$['a','b']")
	refused(t, " $", "$ ", " $[0]", "$[0] ", "$ [0]", "$[ 0]", "$[0 ]", "$[ 0 ]", "$[1 2]", "$[0] [1]", "$[ 'a']", "$['a' ]", "$['a'] ['b']", "$\t", "\n$", "$[\r0]", "$[0\n]", "$['a'\t]", "$['a']\n", "$[\u00a00]")
	refused(t, `$["a"]`, `$[""]`, `$["a']`, `$['a"]`, `$[a']`, `$["]`, `$["0"]`, "$[`a`]", "$[\u2019a\u2019]") // other marks
	refused(t, "$['", "$['a", "$['a]", "$[']", "$[''", "$['a'b']", "$['a''b']", "$['']']", "$[''']", "$['a']['", "$['a']['b]", `$['\'`, `$['\']`, `$['a\']`, `$['\\\']`)
	refused(t, `$['\`, `$['a\`, `$['\\\`, `$[0]['\`, `$\`, `$[\`, `$[\'a\']`, `\$`) // a backslash at the end, and elsewhere
}

// P13.2: escapes that Name doesn't write.
func TestParseOfEscapes(t *testing.T) {
	for c := range 256 {
		s := `$['\` + string([]byte{byte(c)}) + `']`
		if strings.IndexByte(`btnfr'\`, byte(c)) < 0 {
			refused(t, s)
		} else if l, ok := path.Parse(s); !ok || len(l) != 1 || path.Put(l...) != s {
			t.Errorf("Parse(%q) = %+v, %v", s, l, ok)
		}
	}
	refused(t, `$['\/']`, `$['\"']`, `$['\v']`, `$['\a']`, `$['\0']`, `$['\x41']`, `$['\N']`, `$['\U0001']`, `$['\ ']`, `$['\]']`)
	refused(t, `$['\u`, `$['\u']`, `$['\u0']`, `$['\u00']`, `$['\u000']`, `$['\u001']`, `$['\u00`, `$['\u000`, `$['\u0000`, `$['\u0000'`, `$['\u00'b']`, `$['\u 0001']`, `$['\u+001']`, `$['\u00-1']`, `$['\u00g0']`, `$['\u000g']`, `$['\u00 1']`, `$['\u{1}']`, `$['\u000\u0001']`)
	refused(t, `$['\u000B']`, `$['\u000E']`, `$['\u000F']`, `$['\u001A']`, `$['\u001F']`, `$['\U0001']`, `$['\U00000001']`) // greater letters
	refused(t, `$['\u0008']`, `$['\u0009']`, `$['\u000a']`, `$['\u000A']`, `$['\u000c']`, `$['\u000d']`, `$['\u0020']`, `$['\u0022']`, `$['\u0027']`, `$['\u002f']`, `$['\u0041']`, `$['\u005c']`, `$['\u005C']`, `$['\u007f']`, `$['\u0080']`, `$['\u00e9']`, `$['\u00ff']`, `$['\u00c3\u00a9']`, `$['\u00c3`+"\xa9"+`']`)
	refused(t, `$['\u20ac']`, `$['\ufffd']`, `$['\u0100']`, `$['\u1000']`, `$['\ud83d\ude00']`, `$['\ud83d']`, `$['\ude00']`)
	reads(t, `$['\u000b0\\u0041']`, []api.Step{named("\v0\\u0041")}, true)
}

// P13.2: of all numbers of four digits, in small letters and in great ones, those alone that Name writes so.
func TestParseOfEachNumber(t *testing.T) {
	for n := range 1 << 16 {
		digits := strconv.FormatInt(int64(1<<16+n), 16)[1:]
		s := `\u` + digits
		want, ok := []api.Step{named(string(rune(n)))}, written[rune(n)] == s
		if !ok {
			want = nil
		}
		reads(t, "$['"+s+"']", want, ok)
		if great := strings.ToUpper(digits); great != digits {
			refused(t, `$['\u`+great+`']`)
		}
	}
}

// P13.2: each byte as it stands in a name: those below 32, marks and such as are no signs alone aren't right there.
func TestParseOfBytes(t *testing.T) {
	for c := range 256 {
		b := string([]byte{byte(c)})
		ok := c >= 32 && c < 128 && c != '\'' && c != '\\'
		for _, x := range []struct{ head, tail string }{{"", ""}, {"a", ""}, {"", "a"}, {"a", "a"}, {"\u00e9", "\u20ac"}} {
			var want []api.Step
			if ok {
				want = []api.Step{named(x.head + b + x.tail)}
			}
			reads(t, "$['"+x.head+b+x.tail+"']", want, ok)
		}
	}
}

// P13.2: what begins a path is one just where a step ends.
func TestParseOfBeginnings(t *testing.T) {
	for s := range whole() {
		for n := range len(s) {
			readsByWords(t, s[:n])
			readsByWords(t, s[n:])
		}
	}
}

// P13.2: paths with a byte more, a byte less, or another byte, at each place.
func TestParseOfNearMisses(t *testing.T) {
	edges := "$[]'\"\\/bu .,-+:*019aAfgnx\x00\x0a\x1f\x7f\x80\xc3\xff"
	for s := range whole() {
		for n := range len(s) {
			readsByWords(t, s[:n]+s[n+1:])
			for i := range len(edges) {
				readsByWords(t, s[:n]+edges[i:i+1]+s[n:])
				readsByWords(t, s[:n]+edges[i:i+1]+s[n+1:])
			}
		}
	}
	base := `$['a\n\u001f'][10]`
	for n := range len(base) {
		for c := range 256 {
			readsByWords(t, base[:n]+string([]byte{byte(c)})+base[n:])
			readsByWords(t, base[:n]+string([]byte{byte(c)})+base[n+1:])
		}
	}
}

// P13.2: all short texts of the bytes of which paths are made.
func TestParseOfShortTexts(t *testing.T) {
	bytes := "$[]'\\u01 n\xc3\xa9"
	short := []string{"", "$[", "$['", `$['\u00`}
	for range 4 {
		var longer []string
		for _, s := range short {
			readsByWords(t, s+"]")
			readsByWords(t, s+"']")
			for i := range len(bytes) {
				readsByWords(t, s+bytes[i:i+1])
				longer = append(longer, s+bytes[i:i+1])
			}
		}
		short = longer
	}
}

// P13.1 and P13.2: long names, many steps, by the chapter's words; in time that grows no faster than they do (P1).
func TestLong(t *testing.T) {
	long := strings.Repeat("a'\\\n\x01\u00e9\u20ac\U0001f600]", 100000)
	text := strings.Repeat(`a\'\\\n\u0001`+"\u00e9\u20ac\U0001f600]", 100000)
	if got := path.Name(long); got != "'"+text+"'" {
		t.Errorf("Name: %d bytes", len(got))
	}
	reads(t, "$['"+text+"']", []api.Step{named(long)}, true)
	refused(t, "$['"+text+"'", "$['"+text, "$['"+text+"\x00']", "$['"+text+"\xff']", "$['"+text+"']x", "$['"+text+`\`)
	var l []api.Step
	var b strings.Builder
	b.WriteByte('$')
	for i := range 200000 {
		l = append(l, at(i), named("a"))
		b.WriteString("[" + strconv.Itoa(i) + "]['a']")
	}
	if got := path.Put(l...); got != b.String() {
		t.Errorf("Put: %d bytes", len(got))
	}
	reads(t, b.String(), l, true)
	refused(t, b.String()+"[", strings.Repeat("$", 100000), "$"+strings.Repeat("[", 100000), "$"+strings.Repeat("['", 100000), "$['"+strings.Repeat("'", 100000), "$['"+strings.Repeat(`\`, 100001))
	if got := path.Put(append(l, at(-1))...); got != "" {
		t.Errorf("Put with a wrong step: %d bytes", len(got))
	}
}

// P1: all calls end without a panic, whatever bytes and numbers they are given.
func TestWrongInputs(t *testing.T) {
	texts := []string{"", "$", "[", "'", "\\", "\xff", "\x00", `\u`, `$['\u00`, "$[\xff]", "$['\xff", strings.Repeat("\xff", 1000), strings.Repeat(`\u`, 1000), "$[" + strings.Repeat("-", 1000), "$" + strings.Repeat("[0", 1000)}
	for _, s := range texts {
		path.Name(s)
		path.Parse(s)
		for _, i := range []int{math.MinInt, -1, 0, 1, api.MaxInt, api.MaxInt + 1, math.MaxInt} {
			for _, is := range []bool{false, true} {
				l := api.Step{Named: is, Name: s, Index: i}
				path.Right(l)
				path.Put(l, l)
			}
		}
	}
}

// P2 and the rules: what is handed in isn't changed, nor its spare room, nor kept; what Parse answers is new memory, spare room too; calls stand alone.
func TestCallsStandAlone(t *testing.T) {
	spare := []api.Step{named("a'"), at(3), named("b"), at(-1), {Name: "spare"}}
	given := slices.Clone(spare)
	for range 3 {
		if got := path.Put(spare[:3]...); got != `$['a\''][3]['b']` {
			t.Errorf("Put = %s", got)
		}
		if got := path.Put(spare[:4]...); got != "" {
			t.Errorf("Put = %s", got)
		}
		if !slices.Equal(spare, given) {
			t.Fatalf("Put made %+v of %+v", spare, given)
		}
		refused(t, "$[", "$['a']['\xff']")
	}
	for s, want := range whole() {
		one, _ := path.Parse(s)
		other, _ := path.Parse(s)
		one = one[:cap(one)]
		for i := range one {
			one[i] = api.Step{Named: true, Name: "written over", Index: -9}
		}
		path.Parse("$[1]['x'][2]['y'][3]")
		if !slices.Equal(other, want) {
			t.Fatalf("Parse(%q) = %+v, want %+v", s, other, want)
		}
		reads(t, s, want, true)
	}
}

// P13.1 and P13.2: rows of steps of each kind, by the chapter's words, and back; a row with a wrong one is none.
func TestRowsByWords(t *testing.T) {
	kinds := []api.Step{at(0), at(10), at(api.MaxInt), named(""), named("a'"), named("\n\\"), named("\u20ac]["), at(-1), {Name: "a"}, named("\xff")}
	rows := [][]api.Step{nil}
	for range 4 {
		var longer [][]api.Step
		for _, row := range rows {
			for _, s := range kinds {
				l := append(slices.Clone(row), s)
				want := putByWords(l)
				if got := path.Put(l...); got != want {
					t.Fatalf("Put(%+v) = %q, want %q", l, got, want)
				}
				if want != "" {
					reads(t, want, l, true)
				}
				longer = append(longer, l)
			}
		}
		rows = longer
	}
}
