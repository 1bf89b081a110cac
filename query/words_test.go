package query_test

import (
	"regexp"
	"slices"
	"strconv"
	"strings"
	"testing"
	"unicode/utf16"
	"unicode/utf8"

	"riffle/api"
	"riffle/query"
)

// The grammar of queries, by the chapter's words.
const (
	blanks   = `[ \t\n\r]*`
	number   = `(?:0|-?[1-9][0-9]*)`
	escape   = `\\(?:[bfnrt/\\]|u(?:[0-9a-cA-CefEF][0-9a-fA-F]{3}|[dD][0-7][0-9a-fA-F]{2}|[dD][89abAB][0-9a-fA-F]{2}\\u[dD][c-fC-F][0-9a-fA-F]{2}))`
	one      = `'(?:[^\x00-\x1f'\\]|\\'|` + escape + `)*'`
	two      = `"(?:[^\x00-\x1f"\\]|\\"|` + escape + `)*"`
	slice    = `(?:` + number + blanks + `)?:(?:` + blanks + number + `)?(?:` + blanks + `:(?:` + blanks + number + `)?)?`
	selector = `(?:` + one + `|` + two + `|\*|` + slice + `|` + number + `)`
	brackets = `\[` + blanks + selector + blanks + `(?:,` + blanks + selector + blanks + `)*\]`
	plain    = `[A-Za-z_\x{80}-\x{10ffff}][A-Za-z_\x{80}-\x{10ffff}0-9]*`
	segment  = blanks + `(?:` + brackets + `|\.\.(?:` + brackets + `|\*|` + plain + `)|\.(?:\*|` + plain + `))`
)

// Whole texts, and the pieces of them.
var (
	text      = regexp.MustCompile(`^\$(?:` + segment + `)*\z`)
	segments  = regexp.MustCompile(segment)
	selectors = regexp.MustCompile(selector)
	signs     = regexp.MustCompile(`(?:\\u[0-9a-fA-F]{4})+|\\.|[^\\]`)
	numbers   = regexp.MustCompile(`^([^:]*):([^:]*):?([^:]*)$`)
)

// parseByWords is Parse, by the grammar.
func parseByWords(s string) (api.Query, bool) {
	if !utf8.ValidString(s) || !text.MatchString(s) {
		return nil, false
	}
	var q api.Query
	for _, piece := range segments.FindAllString(s, -1) {
		piece = strings.TrimLeft(piece, " \t\n\r")
		inner := strings.TrimLeft(piece, ".")
		g := api.Segment{Deep: strings.HasPrefix(piece, "..")}
		switch {
		case inner == "*":
			g.Selectors = []api.Selector{any}
		case inner[0] != '[':
			g.Selectors = []api.Selector{name(inner)}
		default:
			for _, text := range selectors.FindAllString(inner, -1) {
				l, ok := selectorByWords(text)
				if !ok {
					return nil, false
				}
				g.Selectors = append(g.Selectors, l)
			}
		}
		q = append(q, g)
	}
	return q, true
}

// selectorByWords reads a selector that the grammar has; it may still have numbers beyond the range.
func selectorByWords(s string) (api.Selector, bool) {
	switch {
	case s == "*":
		return any, true
	case s[0] == '\'' || s[0] == '"':
		return name(signs.ReplaceAllStringFunc(s[1:len(s)-1], unescaped)), true
	}
	parts := numbers.FindStringSubmatch(s)
	if parts == nil {
		n, ok := within(s)
		return index(n), ok
	}
	l := stride(1)
	for i, part := range parts[1:] {
		if part = strings.Trim(part, " \t\n\r"); part == "" {
			continue
		}
		n, ok := within(part)
		if !ok {
			return l, false
		}
		switch i {
		case 0:
			l = from(n, l)
		case 1:
			l = to(n, l)
		case 2:
			l.Stride = n
		}
	}
	return l, true
}

// within is a number of the range.
func within(s string) (int, bool) {
	n, err := strconv.ParseInt(s, 10, 64)
	return int(n), err == nil && n >= -(1<<53-1) && n <= 1<<53-1
}

// unescaped is what an escape, or some of four digits, or a sign stands for.
func unescaped(s string) string {
	if s[0] != '\\' {
		return s
	}
	if s[1] != 'u' {
		if at := strings.IndexByte("bfnrt", s[1]); at >= 0 {
			return "\b\f\n\r\t"[at : at+1]
		}
		return s[1:]
	}
	var units []uint16
	for _, digits := range strings.Split(s, `\u`)[1:] {
		n, _ := strconv.ParseUint(digits, 16, 16)
		units = append(units, uint16(n))
	}
	return string(utf16.Decode(units))
}

// readsByWords tells whether Parse of a text is what the grammar says.
func readsByWords(t *testing.T, s string) {
	t.Helper()
	want, ok := parseByWords(s)
	if q, is := query.Parse(s); is != ok || !same(q, want) {
		t.Fatalf("Parse(%q) = %+v, %v, want %+v, %v", s, q, is, want, ok)
	}
}

// texts have all that a query may have.
func texts() []string {
	all := []string{
		`$.a..b[0, -1 , *].*..*`, "$ ['a\\'\\n\\u00e9']\t..[\"x\\\"\\\\\",1 : -2\n:3]", "$[1:2:3,::-1,:5 ,6:].\u20ac_9", `$['\ud83d\ude00',"\uD83D\uDE00"]`,
		"$[" + greatest + ":-" + greatest + "]", "$..[ :: ]..\u00e9", `$["'"]['"']`, "$['\u00e9\U0001f600']",
	}
	for s := range whole() {
		all = append(all, s)
	}
	return all
}

// P14.1 and P14.2: a query's beginnings and endings, and with a byte more, less, or another one, at each place.
func TestNearMisses(t *testing.T) {
	edges := "$.[]*,:'\"\\ \t_-+019aAdfunbxZ?@/\x00\x0b\x1f\x7f\x80\xa9\xc3\xff"
	for _, s := range texts() {
		for n := range len(s) {
			readsByWords(t, s[:n])
			readsByWords(t, s[n:])
			readsByWords(t, "$"+s[n:])
			readsByWords(t, s[:n]+s[n+1:])
			readsByWords(t, s[:n]+s[n:n+1]+s[n:])
			for i := range len(edges) {
				readsByWords(t, s[:n]+edges[i:i+1]+s[n:])
				readsByWords(t, s[:n]+edges[i:i+1]+s[n+1:])
			}
		}
	}
}

// P14.1 and P14.2: each byte at each place of one query.
func TestEachByte(t *testing.T) {
	s := "$.a1 [-10 : 2,'\\n\\ud83d\\ude00\u20ac']..*"
	for n := range len(s) {
		for c := range 256 {
			b := string([]byte{byte(c)})
			readsByWords(t, s[:n]+b+s[n:])
			readsByWords(t, s[:n]+b+s[n+1:])
		}
	}
}

// shorts tells of all texts of so many pieces at most, between each head and each tail.
func shorts(t *testing.T, most int, pieces, heads, tails []string) {
	t.Helper()
	short := []string{""}
	for range most {
		var longer []string
		for _, s := range short {
			for _, piece := range pieces {
				longer = append(longer, s+piece)
			}
		}
		for _, s := range longer {
			for _, head := range heads {
				for _, tail := range tails {
					readsByWords(t, head+s+tail)
				}
			}
		}
		short = longer
	}
}

// P14.1 and P14.2: all short texts of the pieces of segments, of slices and of names.
func TestShortTexts(t *testing.T) {
	signs := func(s string) []string { return strings.Split(s, "") }
	shorts(t, 4, signs("$.[]*a0 ,:'-"), []string{"", "$", "$.", "$["}, []string{"", "]"})
	shorts(t, 5, signs(": 10-,"), []string{"$[", "$[2:"}, []string{"]"})
	shorts(t, 4, append(signs(`'"\nu a`), `\u`, `0022`, `d83d`, `de00`), []string{`$['`, `$["`}, []string{"]", "']", `"]`})
	shorts(t, 4, append(signs("a_9.* [é"), "\xc3", "\xa9", "\xff"), []string{"$.", "$..", "$.a"}, []string{"", "0]"})
}

// P1: long texts, in time that grows no faster than they do.
func TestLong(t *testing.T) {
	const many = 200000
	var q api.Query
	var l []api.Selector
	var row, list strings.Builder
	for i := range many {
		q = append(q, of(name("a")), below(index(i)))
		row.WriteString(" .a..[" + strconv.Itoa(i) + "]")
		l = append(l, name("b\n"), from(i, stride(1)))
		list.WriteString(`'b\n' ,"b\n"[`[:7] + strconv.Itoa(i) + ":,")
	}
	reads(t, "$"+row.String(), q...)
	reads(t, "$["+list.String()+"*]", of(append(l, any)...))
	refused(t, "$"+row.String()+" ", "$"+row.String()+".", "$["+list.String()+"]", "$["+list.String()+"*", "$["+list.String())
	for _, piece := range []string{"$", ".", "..", "[", "]", "[0", "['", `["`, "'", `"`, `\`, ":", ",", "*", "0", "-", "9", " ", ".a", "\xff", `['\ud83d`} {
		for _, head := range []string{"", "$", "$.", "$[", "$['", `$["`, "$[1", "$[1:", "$[::"} {
			s := head + strings.Repeat(piece, many)
			q, ok := query.Parse(s)
			if want := piece == ".a" && (head == "$" || head == "$."); ok != want || !ok && len(q) != 0 {
				t.Errorf("Parse of %q and %q many times: %d segments, %v", head, piece, len(q), ok)
			}
			query.Int(s)
		}
	}
	for mark := range marks {
		long := strings.Repeat("x\\\\\u20ac\\u0041"+marks[mark]+`\`+mark, many)
		want := strings.Repeat("x\\\u20acA"+marks[mark]+mark, many)
		reads(t, "$["+mark+long+mark+"]", of(name(want)))
		refused(t, "$["+mark+long+"]", "$["+mark+long+`\`+mark+"]", "$["+mark+long+"\x00"+mark+"]", "$["+mark+long+"\xff"+mark+"]")
	}
	plain := strings.Repeat("a_0\u20ac", many)
	reads(t, "$."+plain+".."+plain, of(name(plain)), below(name(plain)))
	refused(t, "$."+plain+"-", "$.."+plain+"\xff", "$."+plain+"\xe2\x82")
	reads(t, "$"+strings.Repeat(" \n", many)+"["+strings.Repeat("\t\r", many)+"1"+strings.Repeat(" ", many)+":"+strings.Repeat(" ", many)+"]", of(from(1, stride(1))))
}

// P2 and the rules: calls stand alone, what is answered is new memory, and no two lists of it share any, spare room too.
func TestCallsStandAlone(t *testing.T) {
	for s, want := range whole() {
		first, _ := query.Parse(s)
		second, _ := query.Parse(s)
		for i := range first {
			l := first[i].Selectors
			for k := range l[:cap(l)] {
				l[:cap(l)][k] = api.Selector{Kind: 9, Name: "written over", Index: -i - 2}
			}
			for k := range i { // no later segment has written over an earlier one
				earlier := first[k].Selectors
				if slices.ContainsFunc(earlier[:cap(earlier)], func(x api.Selector) bool { return x.Index != -k-2 }) {
					t.Fatalf("Parse(%q): two segments share their selectors", s)
				}
			}
		}
		for i := range first[:cap(first)] {
			first[:cap(first)][i] = api.Segment{}
		}
		query.Parse("$['other'][1:2:3]..*")
		query.Parse("$['other'][1:2:3]..*[")
		query.Int("-17]")
		if !same(second, want) {
			t.Fatalf("Parse(%q) = %+v, want %+v", s, second, want)
		}
		reads(t, s, want...)
		intIs(t, "12:", 12, 2, true)
	}
}

// P1: all calls end without a panic, whatever bytes they are given.
func TestWrongInputs(t *testing.T) {
	for a := range 256 {
		for b := range 256 {
			s := string([]byte{byte(a), byte(b)})
			query.Int(s)
			for _, head := range []string{"", "$", "$.", "$..", "$[", "$['", `$["\`, `$['\`, "$[1", "$[1:", "$['a'"} {
				query.Parse(head + s)
			}
		}
	}
}
