package write_test

import (
	"math"
	"strings"
	"testing"

	"riffle/api"
	"riffle/path"
	"riffle/query"
	"riffle/write"
)

// The greatest integer, in digits, and the number.
const (
	digits   = "9007199254740991"
	greatest = 1<<53 - 1
)

// any selects all.
var any = api.Selector{Kind: api.ByAny}

// name is a selector by name.
func name(s string) api.Selector { return api.Selector{Kind: api.ByName, Name: s} }

// index is a selector by index.
func index(i int) api.Selector { return api.Selector{Kind: api.ByIndex, Index: i} }

// stride is a slice without a start and an end.
func stride(n int) api.Selector { return api.Selector{Kind: api.BySlice, Stride: n} }

// from is a slice with a start, too; to is one with an end, too.
func from(n int, s api.Selector) api.Selector {
	s.Start, s.HasStart = n, true
	return s
}

func to(n int, s api.Selector) api.Selector {
	s.End, s.HasEnd = n, true
	return s
}

// of is a segment that isn't Deep; below is one that is.
func of(l ...api.Selector) api.Segment { return api.Segment{Selectors: l} }

func below(l ...api.Selector) api.Segment { return api.Segment{Deep: true, Selectors: l} }

// named is a step by name.
func named(s string) api.Step { return api.Step{Named: true, Name: s} }

// at is a step by index.
func at(i int) api.Step { return api.Step{Index: i} }

// rights has right selectors, and their texts.
func rights() map[string]api.Selector {
	return map[string]api.Selector{
		"*":    any,
		"''":   {},
		"'a'":  name("a"),
		"'*'":  name("*"),
		"'-1'": name("-1"),
		"':'":  name(":"), "'0'": name("0"), "'1:2'": name("1:2"), "'a,b'": name("a,b"), "']'": name("]"), "'[0]'": name("[0]"), "'$'": name("$"), "'..'": name(".."), "' '": name(" "), "'ab cd'": name("ab cd"),
		`'\''`: name("'"), `'a\'b'`: name("a'b"), `'\\'`: name(`\`), `'\\n'`: name(`\n`), `'\\\''`: name(`\'`), `'"'`: name(`"`), "'/'": name("/"),
		`'\b\t\n\f\r'`: name("\b\t\n\f\r"), `'\u0000\u000b\u001f'`: name("\x00\v\x1f"), "'\x7f'": name("\x7f"), "'\u0080\u20ac\U0001f600'": name("\u0080\u20ac\U0001f600"), "'\ufffd'": name("\ufffd"), "'\U0010ffff'": name("\U0010ffff"),
		"0": index(0), "1": index(1), "-1": index(-1), "9": index(9), "10": index(10), "-10": index(-10), "1203": index(1203), "-98765": index(-98765), digits: index(greatest), "-" + digits: index(-greatest),
		":": stride(1), "::0": stride(0), "::2": stride(2), "::-1": stride(-1), "::10": stride(10), "::11": stride(11), "::-120": stride(-120), "::" + digits: stride(greatest), "::-" + digits: stride(-greatest),
		"0:": from(0, stride(1)), "1:": from(1, stride(1)), "-1:": from(-1, stride(1)), "100:": from(100, stride(1)), digits + ":": from(greatest, stride(1)), "-" + digits + ":": from(-greatest, stride(1)),
		":0": to(0, stride(1)), ":1": to(1, stride(1)), ":-1": to(-1, stride(1)), ":100": to(100, stride(1)), ":" + digits: to(greatest, stride(1)), ":-" + digits: to(-greatest, stride(1)),
		"0:0": from(0, to(0, stride(1))), "1:2": from(1, to(2, stride(1))), "2:1": from(2, to(1, stride(1))), "-3:-12": from(-3, to(-12, stride(1))),
		"0::0": from(0, stride(0)), "1::2": from(1, stride(2)), "-1::-2": from(-1, stride(-2)), ":0:0": to(0, stride(0)), ":1:2": to(1, stride(2)), ":-1:-2": to(-1, stride(-2)),
		"0:0:0": from(0, to(0, stride(0))), "1:2:3": from(1, to(2, stride(3))), "-1:-2:-3": from(-1, to(-2, stride(-3))), "10:0:-10": from(10, to(0, stride(-10))),
		digits + ":-" + digits + ":" + digits: from(greatest, to(-greatest, stride(greatest))),
	}
}

// wrongs has selectors that aren't right.
func wrongs() []api.Selector {
	beyond := greatest + 1
	l := []api.Selector{
		{Kind: -1}, {Kind: 4}, {Kind: 5}, {Kind: -2}, {Kind: math.MaxInt}, {Kind: math.MinInt}, {Kind: 256}, {Kind: 1 << 32}, {Kind: 1<<32 + 3}, {Kind: -1, Name: "a"}, {Kind: 4, Stride: 1}, {Kind: 4, Index: 1},
		index(beyond), index(-beyond), index(math.MaxInt), index(math.MinInt), index(beyond + 1), index(1 << 62),
		stride(beyond), stride(-beyond), stride(math.MaxInt), stride(math.MinInt),
		from(beyond, stride(1)), from(-beyond, stride(1)), from(math.MaxInt, stride(1)), from(math.MinInt, stride(0)),
		to(beyond, stride(1)), to(-beyond, stride(1)), to(math.MaxInt, stride(1)), to(math.MinInt, stride(0)),
		from(1, to(beyond, stride(2))), from(-beyond, to(1, stride(2))), from(1, to(2, stride(beyond))),
	}
	for _, n := range []int{1, -1, 7, greatest, -greatest, beyond, -beyond, math.MaxInt, math.MinInt} { // Start and End, where there is none
		l = append(l, api.Selector{Kind: api.BySlice, Start: n, Stride: 1}, api.Selector{Kind: api.BySlice, End: n, Stride: 1}, api.Selector{Kind: api.BySlice, Start: n, End: n})
		l = append(l, to(1, api.Selector{Kind: api.BySlice, Start: n}), from(1, api.Selector{Kind: api.BySlice, End: n}))
	}
	for _, s := range []string{"\xff", "a\x80", "\xc3", "a\xe2\x82", "\xe2\x82'", "\xed\xa0\x80", "\xc0\x80", "\xf4\x90\x80\x80", "ok\xf8", "\u00e9\xa9"} {
		l = append(l, name(s))
	}
	return append(l, extras()...)
}

// extras has selectors of each kind, each with one field set that its kind hasn't.
func extras() []api.Selector {
	var l []api.Selector
	for _, s := range []api.Selector{name(""), name("a"), any, index(0), index(-3), stride(1), from(1, to(2, stride(3)))} {
		byName, byIndex, bySlice := s, s, s
		byName.Name, byIndex.Index = "a", 1
		if s.Kind != api.ByName {
			l = append(l, byName)
		}
		if s.Kind != api.ByIndex {
			l = append(l, byIndex)
			byIndex.Index = -1
			l = append(l, byIndex)
		}
		if s.Kind != api.BySlice {
			l = append(l, from(0, s), to(0, s), from(1, s), to(1, s), from(0, to(0, s)))
			bySlice.Start = 1
			l = append(l, bySlice)
			bySlice.Start, bySlice.End = 0, -1
			l = append(l, bySlice)
			bySlice.End, bySlice.Stride = 0, 1
			l = append(l, bySlice)
			bySlice.Stride = -1
			l = append(l, bySlice)
		}
	}
	return l
}

// isRight tells whether a query is right, and which text is its own.
func isRight(t *testing.T, q api.Query, want string) {
	t.Helper()
	if !write.Right(q) || write.Text(q) != want {
		t.Fatalf("Right(%+v) = %v, Text = %q, want true, %q", q, write.Right(q), write.Text(q), want)
	}
	p, ok := query.Parse(want)
	if !ok || !sameByWords(p, q) || !write.Same(p, q) {
		t.Fatalf("Parse(%q) = %+v, %v, want %+v", want, p, ok, q)
	}
}

// isWrong tells whether a query isn't right, and has no text.
func isWrong(t *testing.T, q api.Query) {
	t.Helper()
	if write.Right(q) || write.Text(q) != "" {
		t.Fatalf("Right(%+v) = %v, Text = %q, want false and none", q, write.Right(q), write.Text(q))
	}
}

// P15.1, P15.2: Right, Selector and Text of each right selector, alone, first, in the middle and last, in one segment and in several.
func TestRightSelectors(t *testing.T) {
	for want, s := range rights() {
		if got := write.Selector(s); got != want {
			t.Fatalf("Selector(%+v) = %q, want %q", s, got, want)
		}
		isRight(t, api.Query{of(s)}, "$["+want+"]")
		isRight(t, api.Query{below(s)}, "$..["+want+"]")
		isRight(t, api.Query{of(s, any)}, "$["+want+",*]")
		isRight(t, api.Query{below(index(7), s, name("x"))}, "$..[7,"+want+",'x']")
		isRight(t, api.Query{of(stride(2), s)}, "$[::2,"+want+"]")
		isRight(t, api.Query{of(s, s, s)}, "$["+want+","+want+","+want+"]")
		isRight(t, api.Query{of(s), below(s, s), of(s)}, "$["+want+"]..["+want+","+want+"]["+want+"]")
		isRight(t, api.Query{below(any), of(s), below(any)}, "$..[*]["+want+"]..[*]")
	}
}

// P15.1, P15.2: a selector that isn't right has no text, and no query with it is right, wherever it is in it.
func TestWrongSelectors(t *testing.T) {
	for _, s := range wrongs() {
		if got := write.Selector(s); got != "" {
			t.Fatalf("Selector(%+v) = %q, want none", s, got)
		}
		for _, g := range []api.Segment{of(s), below(s), of(s, any), of(any, s), of(any, s, name("a")), below(index(1), stride(1), s), below(s, index(1), stride(1)), of(s, s)} {
			isWrong(t, api.Query{g})
			isWrong(t, api.Query{g, of(any), below(any)})
			isWrong(t, api.Query{of(any), g, below(any)})
			isWrong(t, api.Query{of(any), below(any), g})
			isWrong(t, api.Query{g, g})
			isWrong(t, api.Query{of(any), g, of()})
		}
	}
}

// P15.1, P15.2: a query of no segments is right; one with a segment without selectors isn't.
func TestNoSelectors(t *testing.T) {
	isRight(t, nil, "$")
	isRight(t, api.Query{}, "$")
	isRight(t, make(api.Query, 0, 5), "$")
	spare := api.Segment{Selectors: make([]api.Selector, 0, 3)}
	for _, g := range []api.Segment{of(), below(), spare, {Deep: true, Selectors: []api.Selector{}}} {
		isWrong(t, api.Query{g})
		isWrong(t, api.Query{g, g})
		isWrong(t, api.Query{g, of(any), of(any)})
		isWrong(t, api.Query{of(any), g, below(any)})
		isWrong(t, api.Query{below(any), of(any), g})
		isWrong(t, api.Query{of(any, any), of(name("a")), of(index(1)), g, of(any)})
	}
}

// whole has queries' texts, and the texts that their queries are written as.
var whole = map[string]string{
	"$": "$", "$.a": "$['a']", "$..a": "$..['a']", "$.*": "$[*]", "$..*": "$..[*]", "$[0]": "$[0]", "$ [ 0 ]": "$[0]", `$["a"]`: "$['a']", `$["a'b"]`: `$['a\'b']`, `$['\u0041\/']`: "$['A/']", `$["\""]`: `$['"']`,
	"$.a..*": "$['a']..[*]", // the chapter's example
	"$.a.b":  "$['a']['b']", "$.a..b": "$['a']..['b']", "$..a.b": "$..['a']['b']", "$..a..b..c": "$..['a']..['b']..['c']", "$.a[1:, 'x']..*": "$['a'][1:,'x']..[*]",
	"$[0,1,2]": "$[0,1,2]", "$..[0,0]": "$..[0,0]", "$[*,'*',\"*\"]": "$[*,'*','*']", "$[ : ]": "$[:]", "$[::]": "$[:]", "$[::1]": "$[:]", "$[1:2:1]": "$[1:2]", "$[1:2:]": "$[1:2]", "$[0:0:0]": "$[0:0:0]", "$[ 1 : 2 : -3 ]": "$[1:2:-3]", "$[:-1]": "$[:-1]", "$[-1::]": "$[-1:]",
	"$.a0_\u20ac": "$['a0_\u20ac']", "$[-1,-2:,:-3,::-4]": "$[-1,-2:,:-3,::-4]", "$['']['']": "$['']['']", "$\t.a\n.b\r[\"c\" , 1]": "$['a']['b']['c',1]", `$["\ud83d\ude00\n"]`: "$['\U0001f600\\n']",
}

// P15.2: Text of what Parse makes of a text, and Parse of Text: the same query again.
func TestWhole(t *testing.T) {
	for s, want := range whole {
		q, ok := query.Parse(s)
		if !ok {
			t.Fatalf("Parse(%q): no query", s)
		}
		isRight(t, q, want)
	}
}

// P15.2: names with each sign: in marks 39 as layer 13's Name writes them, and read again as they are.
func TestEachSign(t *testing.T) {
	for n := rune(0); n <= 0x10ffff; n++ {
		if n >= 0xd800 && n < 0xe000 || n > 0x3000 && n%13 != 0 && n < 0x10fff0 {
			continue
		}
		for _, s := range []string{string(n), "a" + string(n) + "1"} {
			want := path.Name(s)
			if got := write.Selector(name(s)); got != want || got[0] != '\'' {
				t.Fatalf("Selector of %q = %q, want %q", s, got, want)
			}
			isRight(t, api.Query{below(name(s), any)}, "$..["+want+",*]")
		}
	}
}

// P15.2: numbers around each power of 2 and of 10, in each place where a number may be.
func TestNumbers(t *testing.T) {
	for _, n := range numbers() {
		text := decimal(n)
		ok := n <= greatest && n >= -greatest
		for s, x := range map[string]api.Selector{
			text: index(n), text + ":": from(n, stride(1)), ":" + text: to(n, stride(1)), "::" + text: stride(n),
			text + ":" + text + ":" + text: from(n, to(n, stride(n))), text + "::-2": from(n, stride(-2)), ":" + text + ":0": to(n, stride(0)), "3:" + text: from(3, to(n, stride(1))), "1:2:" + text: from(1, to(2, stride(n))),
		} {
			if n == 1 {
				s = withoutUsual(s, x)
			}
			got := write.Selector(x)
			if !ok && got != "" || ok && got != s {
				t.Fatalf("Selector(%+v) = %q, want %q, if %v", x, got, s, ok)
			}
			if ok {
				isRight(t, api.Query{of(x)}, "$["+s+"]")
			} else {
				isWrong(t, api.Query{of(x)})
			}
		}
	}
}

// withoutUsual is a slice's text without its stride, if that is 1.
func withoutUsual(text string, s api.Selector) string {
	if s.Kind == api.BySlice && s.Stride == 1 && strings.Count(text, ":") == 2 {
		return text[:strings.LastIndex(text, ":")]
	}
	return text
}

// numbers are those around each power of 2 and of 10, above and below 0.
func numbers() []int {
	l := []int{math.MaxInt, math.MinInt}
	add := func(n int) {
		for d := -1; d <= 1; d++ {
			l = append(l, n+d, -n-d)
		}
	}
	for i := range 62 {
		add(1 << i)
	}
	for n := 10; n < 1e18; n *= 10 {
		add(n)
	}
	return l
}

// decimal is a number in digits, one by one.
func decimal(n int) string {
	if n < 0 {
		if n == math.MinInt {
			return "-9223372036854775808"
		}
		return "-" + decimal(-n)
	}
	last := string(rune('0' + n%10))
	if n < 10 {
		return last
	}
	return decimal(n/10) + last
}

// steps are lists of right steps, and the paths that they are.
func steps() map[string][]api.Step {
	return map[string][]api.Step{
		"$": nil, "$['a']": {named("a")}, "$['']": {named("")}, "$[0]": {at(0)}, "$[12]": {at(12)}, "$[" + digits + "]": {at(greatest)}, "$['0']": {named("0")}, "$['*']": {named("*")}, `$['\'\\']`: {named(`'\`)},
		"$['a']['b']": {named("a"), named("b")}, "$['b']['a']": {named("b"), named("a")}, "$[0][1]": {at(0), at(1)}, "$['a'][0]": {named("a"), at(0)}, "$[0]['a']": {at(0), named("a")}, "$[1][1][1]": {at(1), at(1), at(1)},
		`$['a\'b'][0]`: {named("a'b"), at(0)}, "$['a'][0]['\u20ac\\n'][7]['']": {named("a"), at(0), named("\u20ac\n"), at(7), named("")}, `$['\u0000'][3]`: {named("\x00"), at(3)},
	}
}

// P15.3: Of of right steps: a segment each, not Deep, of one selector; so its Text is the path.
func TestOf(t *testing.T) {
	for want, l := range steps() {
		q := write.Of(l...)
		if !sameByWords(q, ofByWords(l)) {
			t.Fatalf("Of(%+v) = %+v, want %+v", l, q, ofByWords(l))
		}
		isRight(t, q, want)
		if path.Put(l...) != want {
			t.Fatalf("Put(%+v) = %q, want %q", l, path.Put(l...), want)
		}
	}
	if len(write.Of()) != 0 {
		t.Fatal("Of() has segments")
	}
}

// P15.3: Of of steps of which one isn't right: none, wherever it is.
func TestOfWrong(t *testing.T) {
	wrong := []api.Step{at(-1), at(greatest + 1), at(-greatest), at(math.MaxInt), at(math.MinInt), named("\xff"), named("a\xe2\x82"), named("\xed\xa0\x80"), {Name: "a"}, {Name: "a", Index: 1}, {Name: "\xff"}, {Named: true, Index: 1}, {Named: true, Name: "a", Index: -1}, {Named: true, Index: math.MinInt}}
	for _, s := range wrong {
		for _, l := range [][]api.Step{{s}, {s, at(0)}, {at(0), s}, {s, named("a"), at(0)}, {named("a"), s, at(0)}, {named("a"), at(0), s}, {s, s}, {s, at(1), s}} {
			if q := write.Of(l...); len(q) != 0 || path.Put(l...) != "" {
				t.Fatalf("Of(%+v) = %+v, want none", l, q)
			}
		}
	}
}
