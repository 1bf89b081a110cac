package query_test

import (
	"strconv"
	"strings"
	"testing"
)

// Both kinds of marks, each with the other one.
var marks = map[string]string{"'": `"`, `"`: "'"}

// named tells whether between both kinds of marks there is a name, in the only segment and beside others.
func named(t *testing.T, text, want string) {
	t.Helper()
	for mark := range marks {
		inMarks(t, mark, text, want)
	}
}

// inMarks is the same for one kind of marks.
func inMarks(t *testing.T, mark, text, want string) {
	t.Helper()
	text = mark + text + mark
	reads(t, "$["+text+"]", of(name(want)))
	reads(t, "$..["+text+",0, "+text+"\n]..a["+text+"]", below(name(want), index(0), name(want)), below(name("a")), of(name(want)))
}

// unnamed tells whether between both kinds of marks there is no name.
func unnamed(t *testing.T, list ...string) {
	t.Helper()
	for _, text := range list {
		for mark := range marks {
			noneInMarks(t, mark, text)
		}
	}
}

// noneInMarks is the same for one kind of marks.
func noneInMarks(t *testing.T, mark, text string) {
	t.Helper()
	text = mark + text + mark
	refused(t, "$["+text+"]", "$..["+text+"]", "$[0,"+text+"]", "$["+text+",0]", "$["+text+"].a", "$["+text)
}

// P14.1: names without escapes: signs of one to four bytes as they stand, an empty name, 127.
func TestQuotedNames(t *testing.T) {
	for _, s := range []string{"", "a", "abc", "0", "-1", " ", "  a ", "a b", "*", "$", ".", "..", ":", ",", "]", "[", "']"[1:], "],[", "$[0]", "u0041", "btnfr", "/", "//", "@?()", "\x7f", "a\x7fb", "\u0080", "\u00e9", "\u07ff", "\u0800", "\u20ac", "\u2028\u2029", "\ud7ff\ue000", "\ufeff", "\ufffd", "\uffff", "\U00010000", "\U0001f600", "\U0010ffff", "a\u00e9\u20ac\U0001f600z"} {
		named(t, s, s)
		named(t, s+s, s+s)
	}
	for mark, other := range marks {
		refused(t, "$["+mark, "$["+mark+"a", "$["+mark+"a]", "$["+mark+"a"+other+"]", "$["+mark+other, "$["+mark+"]", "$[a"+mark+"]", "$["+mark+"a"+mark, "$["+mark+"a"+mark+"b"+mark+"]", "$["+mark+mark+mark+"]", "$["+mark+"a"+mark+mark+"b"+mark+"]", "$["+mark+"a"+mark+" "+mark+"b"+mark+"]", "$["+mark+"a"+mark+other+"b"+other+"]", "$."+mark+"a"+mark, "$"+mark+"a"+mark)
	}
}

// P14.1: the other mark as it stands, and each of the two behind a backslash.
func TestMarks(t *testing.T) {
	for mark, other := range marks {
		for _, ahead := range []string{"", "a", `\\`, `\n`, "\u20ac", `\u0041`} {
			for _, behind := range []string{"", "b", `\\`, `\n`, "\u20ac", `\u0041`} {
				as := strings.NewReplacer(`\\`, `\`, `\n`, "\n", `\u0041`, "A")
				head, tail := as.Replace(ahead), as.Replace(behind)
				inMarks(t, mark, ahead+other+behind, head+other+tail)
				inMarks(t, mark, ahead+other+other+behind, head+other+other+tail)
				inMarks(t, mark, ahead+`\`+mark+behind, head+mark+tail)
				inMarks(t, mark, ahead+`\`+mark+other+behind, head+mark+other+tail)
				inMarks(t, mark, ahead+other+`\`+mark+behind, head+other+mark+tail)
				inMarks(t, mark, ahead+`\`+mark+`\`+mark+behind, head+mark+mark+tail)
				inMarks(t, mark, ahead+`\\`+other+behind, head+`\`+other+tail)
				noneInMarks(t, mark, ahead+`\`+other+behind)
				noneInMarks(t, mark, ahead+`\\\`+other+behind)
				noneInMarks(t, mark, ahead+other+`\`+other+behind)
				noneInMarks(t, mark, ahead+mark+behind)
				noneInMarks(t, mark, ahead+`\\`+mark+behind)
			}
		}
	}
}

// P14.1: escapes of one letter, as layer 6 has them, and what is none.
func TestEscapes(t *testing.T) {
	letters := map[byte]string{'b': "\b", 'f': "\f", 'n': "\n", 'r': "\r", 't': "\t", '/': "/", '\\': `\`}
	for c := range 256 {
		text := `\` + string([]byte{byte(c)})
		if meant, is := letters[byte(c)]; is {
			named(t, text, meant)
			named(t, "a"+text+text+"b", "a"+meant+meant+"b")
			named(t, `\\`+text, `\`+meant)
			named(t, text+`\\`, meant+`\`)
		} else if c != '\'' && c != '"' {
			unnamed(t, text, "a"+text, text+"a", "a"+text+"a", `\\`+text, `\n`+text, text+`\n`)
		}
	}
	named(t, `\b\f\n\r\t\/\\`, "\b\f\n\r\t/\\")
	named(t, `\\n\\u0041`, `\n\u0041`)
	unnamed(t, `\`, `a\`, `\\\`, `a\\\`, `\n\`, `\ `, `\ n`, `\v`, `\a`, `\0`, `\x41`, `\N`, `\U0041`, `\]`, `\*`)
	for mark := range marks {
		for _, s := range []string{`\`, `\\`, `\\\`, `a\`, `\u`, `\u00`, `\u0041`, `\ud83d`, `\ud83d\`, `\ud83d\u`, `\` + mark, `a\` + mark} {
			refused(t, "$["+mark+s, "$[0,"+mark+s, "$["+mark+s+"]") // the text ends, or the name doesn't
		}
	}
}

// P14.1: signs below 32 don't stand for themselves.
func TestLowSigns(t *testing.T) {
	for c := range 32 {
		b := string(rune(c))
		unnamed(t, b, "a"+b, b+"a", "a"+b+"a", `\n`+b, `\`+b, `\u00`+b+`41`, "\u20ac"+b, `\ud83d`+b+`\ude00`)
	}
	for c := 32; c < 128; c++ {
		if b := string(rune(c)); !strings.Contains(`'"\`, b) {
			named(t, b, b)
		}
	}
}

// P14.1: each number of four digits, in letters of both cases, with what stands around it: a sign, unless it is one of a pair alone.
func TestNumbers(t *testing.T) {
	for n := range 1 << 16 {
		digits := strconv.FormatInt(int64(1<<16+n), 16)[1:]
		small, great := `\u`+digits, `\u`+strings.ToUpper(digits)
		if n >= 0xd800 && n < 0xe000 {
			for mark := range marks {
				refused(t, "$["+mark+small+mark+"]", "$["+mark+great+mark+"]", "$["+mark+"a"+small+"b"+mark+"]")
			}
			continue
		}
		s := string(rune(n))
		for mark := range marks {
			reads(t, "$["+mark+small+"0"+great+mark+"]", of(name(s+"0"+s)))
		}
	}
	named(t, `\u00e9\u00E9\uAbCd\uaBcD`, "\u00e9\u00e9\uabcd\uabcd")
	named(t, `\u0000\u001f\u0022\u0027\u005c\u005C\u007f`, "\x00\x1f\"'\\\\\x7f")
	named(t, `\u00410`, "A0")
	named(t, `\u0027]`, "']")
	unnamed(t, `\u`, `\u0`, `\u00`, `\u004`, `a\u004`, `\u004 1`, `\u 0041`, `\u+041`, `\u-041`, `\u004g`, `\u00g1`, `\u0g41`, `\ug041`, `\u{41}`, `\u004\u0041`, `\u004\n`, `\U0041`, `\u00\41`, "\\u004\u00e9", "\\u004\uff11", `\u004x`, `\u00.1`, `\u00:1`, `\u00@1`, `\u00/1`, "\\u00`1", `\u00G1`)
	for mark, other := range marks {
		for _, s := range []string{`\u`, `\u0`, `\u00`, `\u004`, `\ud83d`, `\ud83d\`, `\ud83d\u`, `\ud83d\ude0`} {
			noneInMarks(t, mark, s)
			noneInMarks(t, mark, s+other)
			noneInMarks(t, mark, s+`\`+mark)
			noneInMarks(t, mark, s+`\`+other)
			noneInMarks(t, mark, s+other+"00")
			noneInMarks(t, mark, s+mark+"00")
		}
	}
}

// P14.1: pairs, the first of one alone, the second alone, and the first with something else behind it.
func TestPairs(t *testing.T) {
	for first := 0xd800; first < 0xdc00; first += 11 {
		for second := 0xdc00; second < 0xe000; second += 31 {
			s := string(rune(0x10000 + (first-0xd800)<<10 + second - 0xdc00))
			text := `\u` + strconv.FormatInt(int64(first), 16) + `\u` + strconv.FormatInt(int64(second), 16)
			for mark := range marks {
				reads(t, "$["+mark+text+mark+"]", of(name(s)))
			}
		}
	}
	named(t, `\ud800\udc00\udbff\udfff`, "\U00010000\U0010ffff")
	named(t, `\uD83D\uDE00`, "\U0001f600")
	named(t, `\uD83d\udE00a\ud83D\uDe01`, "\U0001f600a\U0001f601")
	unnamed(t, `\ud800`, `\udbff`, `\udc00`, `\udfff`, `\uD800`, `\uDC00`, `a\ud800b`, `a\udc00b`, `\udc00\ud800`, `\ud800\ud800`, `\ud800\ud800\udc00`, `\ud800\udc00\udc00`, `\udc00\udc00`, `\ud800\udc00\ud800`)
	unnamed(t, `\ud800\u0041`, `\ud800\ue000`, `\ud800\udbff`, `\ud800\ud7ff`, `\ud800\n`, `\ud800\\`, `\ud800\/`, `\ud800\\udc00`, `\ud800 \udc00`, `\ud800a\udc00`, `\ud800u\udc00`, `\ud800udc00`, `\ud800\dc00`, `\ud800\udc0`, `\ud800\udc0g`, `\ud800\Udc00`, "\\ud800\xed\xb0\x80", "\xed\xa0\x80\\udc00", `\ud800'`, `\ud800"`, `\ud800\'`, `\ud800\"`, `\ud800\'\udc00`, `\ud800\"\udc00`)
}
