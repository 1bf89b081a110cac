package nest_test

import (
	"math"
	"regexp"
	"slices"
	"strconv"
	"strings"
	"testing"

	"riffle/api"
	"riffle/lex"
	"riffle/nest"
)

// Rows of tokens are written with a sign for each: `[]{},:` for those of one byte; S, N and W
// for a string, a number and a word that begin, and s, n and w for those that have ended.
var kinds = map[rune]int{
	'[': 2, ']': 3, '{': 4, '}': 5, ',': 6, ':': 7, 'S': 8, 's': 8, 'N': 9, 'n': 9, 'W': 10, 'w': 10,
}

const signs = "[]{},:SsNnWw"

// token is the token of a sign at a place; its Text, if it has one, hangs on that place.
func token(sign rune, at int) lex.Token {
	t := lex.Token{Kind: kinds[sign], From: at, To: at + 1}
	switch sign {
	case 'S', 'N', 'W':
		t.Begun, t.To = true, at
	case 's':
		t.From, t.Text = at-1, "s"+strconv.Itoa(at)
	case 'n':
		t.From, t.Text = at-1, strconv.Itoa(at)
	case 'w':
		t.From, t.Text = at-1, []string{"null", "true", "false"}[at%3]
	}
	return t
}

// row is the tokens of some signs.
func row(s string) []lex.Token {
	var all []lex.Token
	for at, sign := range s {
		all = append(all, token(sign, at))
	}
	return all
}

// texts is the tokens of a text without a fault of layer 7.
func texts(t *testing.T, s string) []lex.Token {
	t.Helper()
	all, v := lex.All([]byte(s))
	if v.Kind != api.Accept {
		t.Fatalf("All(%q) = %v", s, v)
	}
	return all
}

// strange has tokens that layer 7 hands out nowhere.
var strange = []lex.Token{
	{}, {Kind: 1}, {Kind: -1}, {Kind: 11}, {Kind: 12}, {Kind: 64}, {Kind: 258}, {Kind: math.MaxInt}, {Kind: math.MinInt},
	{Begun: true}, {Kind: 1, Begun: true}, {Kind: -1, Begun: true}, {Kind: 11, Begun: true}, {Kind: 266, Begun: true},
	{Kind: math.MaxInt, Begun: true}, {Kind: math.MinInt, Begun: true},
	{Kind: 2, Begun: true}, {Kind: 3, Begun: true}, {Kind: 4, Begun: true}, {Kind: 5, Begun: true}, {Kind: 6, Begun: true}, {Kind: 7, Begun: true},
	{Kind: 0, Text: "null"}, {Kind: 11, Text: "a"},
}

// noWords has texts that aren't words of layer 5.
var noWords = []string{"", "x", "t", "tru", "truee", "True", "TRUE", "nul", "nullnull", "falsefalse", "fals", " null", "null ", "1", "null\x00"}

// inner is an array or an object of values without such in them.
var inner = regexp.MustCompile(`\[(?:[snwv](?:,[snwv])*)?\]|\{(?:s:[snwv](?:,s:[snwv])*)?\}`)

// whole: are these the signs of a text's tokens, by P9.2?
func whole(s string) bool {
	for {
		outer := inner.ReplaceAllString(s, "v")
		if outer == s {
			return len(s) == 1 && strings.Contains("snwv", s)
		}
		s = outer
	}
}

// begins: is there a text whose tokens begin with these?
func begins(s string) bool {
	ends := ""
	for _, sign := range s {
		switch sign {
		case '[':
			ends = "]" + ends
		case '{':
			ends = "}" + ends
		case ']', '}':
			if !strings.HasPrefix(ends, string(sign)) {
				return false
			}
			ends = ends[1:]
		}
	}
	for _, missing := range []string{"", "n", ":n", "s:n"} {
		if whole(s + missing + ends) {
			return true
		}
	}
	return false
}

// model answers by the chapter's words: it keeps all tokens, and looks through them each time.
type model struct {
	depth int
	taken []lex.Token // of those that come in two the later one
	fault bool
}

// signs is the tokens that were taken as signs; what has begun is told as if it had ended.
func (m *model) signs() string {
	s := ""
	for _, t := range m.taken {
		s += string("[]{},:snw"[t.Kind-2])
	}
	return s
}

func (m *model) begun() bool { return len(m.taken) > 0 && m.taken[len(m.taken)-1].Begun }

func (m *model) Done() bool { return !m.fault && !m.begun() && whole(m.signs()) }

func (m *model) Depth() int {
	open := 0
	for _, t := range m.taken {
		switch t.Kind {
		case 2, 4:
			open++
		case 3, 5:
			open--
		}
	}
	return open
}

func (m *model) Close() int {
	switch {
	case m.fault:
		return api.Misuse
	case m.Done():
		return api.Accept
	case len(m.taken) == 0:
		return api.Empty
	}
	return api.Truncated
}

// refused is the fault of a token; Going, if there is none.
func (m *model) refused(t lex.Token) int {
	word := t.Text == "null" || t.Text == "true" || t.Text == "false"
	switch {
	case m.fault:
		return api.Misuse
	case m.begun():
		if last := m.taken[len(m.taken)-1]; t.Begun || t.Kind != last.Kind || t.Kind == 10 && !word {
			return api.BadOrder
		}
		return api.Going
	case t.Kind < 2 || t.Kind > 10 || t.Begun != (t.Kind >= 8) || !begins(m.signs()+string("[]{},:snw"[t.Kind-2])):
		if m.Done() {
			return api.Trailing
		}
		return api.BadOrder
	case (t.Kind == 2 || t.Kind == 4) && m.Depth() == max(m.depth, 1):
		return api.TooDeep
	}
	return api.Going
}

// around is, of a token, the one that opens what it stands in, and how many Commas are between, and the name ahead of it there.
func (m *model) around(i int) (opening, commas int, name string) {
	level := 0
	for opening = i - 1; opening >= 0; opening-- {
		t := m.taken[opening]
		switch {
		case t.Kind == 3 || t.Kind == 5:
			level++
		case (t.Kind == 2 || t.Kind == 4) && level == 0:
			return opening, commas, name
		case t.Kind == 2 || t.Kind == 4:
			level--
		case t.Kind == 6 && level == 0:
			commas++
		case t.Kind == 7 && level == 0 && commas == 0:
			name = m.taken[opening-1].Text
		}
	}
	return opening, commas, name
}

// step is that of the value that begins with a token.
func (m *model) step(i int) api.Step {
	opening, commas, name := m.around(i)
	switch {
	case opening < 0:
		return api.Step{}
	case m.taken[opening].Kind == 4:
		return api.Step{Named: true, Name: name}
	}
	return api.Step{Index: commas}
}

// isName: is a string a name?
func (m *model) isName(i int) bool {
	opening, _, _ := m.around(i)
	return m.taken[i].Kind == 8 && opening >= 0 && m.taken[opening].Kind == 4 && m.taken[i-1].Kind != 7
}

// events is those of the last token that was taken.
func (m *model) events() []api.Event {
	i := len(m.taken) - 1
	t := m.taken[i]
	last := api.Event{Kind: api.EvClose, From: t.From, To: t.To}
	switch t.Kind {
	case 2, 4:
		return []api.Event{{Kind: api.EvOpen, Value: map[int]int{2: api.Array, 4: api.Object}[t.Kind], From: t.From, Step: m.step(i)}}
	case 3, 5:
		opening, _, _ := m.around(i)
		return []api.Event{{Kind: api.EvClose, Value: map[int]int{3: api.Array, 5: api.Object}[t.Kind], From: m.taken[opening].From, To: t.To, Step: m.step(opening)}}
	case 6, 7:
		return nil
	case 8:
		last.Value = api.String
	case 9:
		last.Value = api.Number
	case 10:
		last.Value = map[string]int{"true": api.Bool, "false": api.Bool}[t.Text]
	}
	switch {
	case m.isName(i):
		return nil
	case t.Begun:
		return []api.Event{{Kind: api.EvOpen, Value: last.Value, From: t.From, Step: m.step(i)}}
	}
	last.Step, last.Text = m.step(i), t.Text
	return []api.Event{last}
}

func (m *model) Take(t lex.Token) ([]api.Event, int) {
	if fault := m.refused(t); fault != api.Going {
		m.fault = true
		return nil, fault
	}
	if m.begun() {
		m.taken = m.taken[:len(m.taken)-1]
	}
	m.taken = append(slices.Clone(m.taken), t)
	return m.events(), api.Going
}

// tells holds what a nest tells of itself, twice, since asking changes nothing.
func tells(t *testing.T, n *nest.Nest, depth int, done bool, end int) {
	t.Helper()
	for range 2 {
		if n.Depth() != depth || n.Done() != done || n.Close() != end {
			t.Fatalf("Depth = %d, Done = %v, Close = %d, want %d, %v, %d", n.Depth(), n.Done(), n.Close(), depth, done, end)
		}
	}
}

// takes holds what a nest answers of a token.
func takes(t *testing.T, n *nest.Nest, x lex.Token, events []api.Event, kind int) {
	t.Helper()
	if got, fault := n.Take(x); !slices.Equal(got, events) || fault != kind {
		t.Fatalf("Take(%v) = %v, %d, want %v, %d", x, got, fault, events, kind)
	}
}

// isOver: does a nest refuse all that may come, whatever that is, and stay as deep as it was?
func isOver(t *testing.T, n *nest.Nest, depth int) {
	t.Helper()
	tells(t, n, depth, false, api.Misuse)
	for range 2 {
		for _, x := range slices.Concat(row(signs), strange) {
			takes(t, n, x, nil, api.Misuse)
		}
		tells(t, n, depth, false, api.Misuse)
	}
}

// holds takes tokens, and holds each answer against the model's.
func holds(t *testing.T, depth int, all []lex.Token) {
	t.Helper()
	n, m := nest.New(depth), &model{depth: depth}
	tells(t, n, 0, false, api.Empty)
	for i, x := range all {
		want, fault := m.Take(x)
		if got, kind := n.Take(x); !slices.Equal(got, want) || kind != fault {
			t.Fatalf("%d deep, behind %v: Take(%v) = %v, %d, want %v, %d", depth, all[:i], x, got, kind, want, fault)
		}
		tells(t, n, m.Depth(), m.Done(), m.Close())
		if fault != api.Going {
			isOver(t, n, m.Depth())
			return
		}
	}
}

// behind is a nest that has taken a row of signs, none of which is a fault.
func behind(t *testing.T, depth int, s string) *nest.Nest {
	t.Helper()
	n := nest.New(depth)
	for _, x := range row(s) {
		if _, kind := n.Take(x); kind != api.Going {
			t.Fatalf("%q: Take(%v) = %d", s, x, kind)
		}
	}
	return n
}

// fault is that of the last one of some signs; each one ahead of it goes on.
func fault(t *testing.T, depth int, s string) int {
	t.Helper()
	n := behind(t, depth, s[:len(s)-1])
	_, kind := n.Take(token(rune(s[len(s)-1]), len(s)-1))
	return kind
}

// opens and closes are events, for short.
func opens(value, from int, step api.Step) api.Event {
	return api.Event{Kind: api.EvOpen, Value: value, From: from, Step: step}
}

func closes(value, from, to int, step api.Step, text string) api.Event {
	return api.Event{Kind: api.EvClose, Value: value, From: from, To: to, Step: step, Text: text}
}

func index(i int) api.Step { return api.Step{Index: i} }

func named(name string) api.Step { return api.Step{Named: true, Name: name} }

// isEvents holds all events of a text, which is one.
func isEvents(t *testing.T, s string, want ...api.Event) {
	t.Helper()
	n := nest.New(64)
	var all []api.Event
	for _, x := range texts(t, s) {
		events, kind := n.Take(x)
		if kind != api.Going {
			t.Fatalf("%s: Take(%v) = %d", s, x, kind)
		}
		all = append(all, events...)
	}
	if !slices.Equal(all, want) {
		t.Errorf("%s: events\n%v, want\n%v", s, all, want)
	}
	tells(t, n, 0, true, api.Accept)
	holds(t, 64, texts(t, s))
}

// place is a row of signs behind which a nest may be, and the signs by which it goes on there.
type place struct {
	name, row, goes string
	depth           int
	done            bool
	end             int
}

// places has each place that the chapter tells apart.
var places = []place{
	{"ahead of all", "", "[{SNW", 0, false, api.Empty},
	{"behind OpenArray", "[", "[{SNW]", 1, false, api.Truncated},
	{"behind a Comma in an array", "[Nn,", "[{SNW", 1, false, api.Truncated},
	{"behind a later Comma in an array", "[Nn,[],", "[{SNW", 1, false, api.Truncated},
	{"behind a string in an array", "[Ss", ",]", 1, false, api.Truncated},
	{"behind a number in an array", "[Nn", ",]", 1, false, api.Truncated},
	{"behind a word in an array", "[Ww", ",]", 1, false, api.Truncated},
	{"behind an array in an array", "[[]", ",]", 1, false, api.Truncated},
	{"behind an object in an array", "[{}", ",]", 1, false, api.Truncated},
	{"behind a later value in an array", "[Nn,{Ss:Nn}", ",]", 1, false, api.Truncated},
	{"behind OpenObject", "{", "S}", 1, false, api.Truncated},
	{"behind a Comma in an object", "{Ss:Nn,", "S", 1, false, api.Truncated},
	{"behind a later Comma in an object", "{Ss:Nn,Ss:{},", "S", 1, false, api.Truncated},
	{"behind a name", "{Ss", ":", 1, false, api.Truncated},
	{"behind a later name", "{Ss:[],Ss", ":", 1, false, api.Truncated},
	{"behind a Colon", "{Ss:", "[{SNW", 1, false, api.Truncated},
	{"behind a later Colon", "{Ss:[],Ss:", "[{SNW", 1, false, api.Truncated},
	{"behind a string in an object", "{Ss:Ss", ",}", 1, false, api.Truncated},
	{"behind a number in an object", "{Ss:Nn", ",}", 1, false, api.Truncated},
	{"behind a word in an object", "{Ss:Ww", ",}", 1, false, api.Truncated},
	{"behind an array in an object", "{Ss:[]", ",}", 1, false, api.Truncated},
	{"behind an object in an object", "{Ss:{}", ",}", 1, false, api.Truncated},
	{"behind a later value in an object", "{Ss:Ww,Ss:[Nn]", ",}", 1, false, api.Truncated},
	{"behind a whole string", "Ss", "", 0, true, api.Accept},
	{"behind a whole number", "Nn", "", 0, true, api.Accept},
	{"behind a whole word", "Ww", "", 0, true, api.Accept},
	{"behind a whole array", "[]", "", 0, true, api.Accept},
	{"behind a whole object", "{}", "", 0, true, api.Accept},
	{"behind a whole nest", "[{Ss:[[]]},Nn]", "", 0, true, api.Accept},
	{"within the whole string", "S", "s", 0, false, api.Truncated},
	{"within the whole number", "N", "n", 0, false, api.Truncated},
	{"within the whole word", "W", "w", 0, false, api.Truncated},
	{"within the first name", "{S", "s", 1, false, api.Truncated},
	{"within a later name", "{Ss:Nn,S", "s", 1, false, api.Truncated},
	{"within a string in an array", "[S", "s", 1, false, api.Truncated},
	{"within a number in an array", "[Nn,N", "n", 1, false, api.Truncated},
	{"within a word in an array", "[Nn,W", "w", 1, false, api.Truncated},
	{"within a string in an object", "{Ss:S", "s", 1, false, api.Truncated},
	{"within a number in an object", "{Ss:Nn,Ss:N", "n", 1, false, api.Truncated},
	{"within a word in an object", "{Ss:W", "w", 1, false, api.Truncated},
	{"in an array in an object", "{Ss:[", "[{SNW]", 2, false, api.Truncated},
	{"in an object in an array", "[{", "S}", 2, false, api.Truncated},
	{"behind a value in an array in an object", "{Ss:[Nn", ",]", 2, false, api.Truncated},
	{"behind a value in an object in an array", "[{Ss:Nn", ",}", 2, false, api.Truncated},
	{"behind a Comma in an array in an object", "{Ss:[Nn,", "[{SNW", 2, false, api.Truncated},
	{"behind a Comma in an object in an array", "[{Ss:Nn,", "S", 2, false, api.Truncated},
	{"in the third array", "[[[", "[{SNW]", 3, false, api.Truncated},
}

// P9.1, P9.2, P9.3 and P9.4: what a nest tells at each place, and each token there: whether it goes on, and which fault it is if it doesn't.
func TestEachTokenAtEachPlace(t *testing.T) {
	for _, p := range places {
		t.Run(p.name, func(t *testing.T) {
			tells(t, behind(t, 9, p.row), p.depth, p.done, p.end)
			for _, sign := range signs {
				want := api.BadOrder
				if p.done {
					want = api.Trailing
				}
				if strings.ContainsRune(p.goes, sign) {
					want = api.Going
				}
				n := behind(t, 9, p.row)
				events, kind := n.Take(token(sign, len(p.row)))
				if kind != want || kind != api.Going && len(events) != 0 {
					t.Errorf("Take of %c = %v, %d, want %d", sign, events, kind, want)
				}
				if kind != api.Going {
					isOver(t, n, p.depth)
				}
				holds(t, 9, row(p.row+string(sign)))
			}
		})
	}
}

// P9.3: at each place tokens that layer 7 hands out nowhere, or not there, whatever else they have.
func TestStrangeTokensAtEachPlace(t *testing.T) {
	for _, p := range places {
		t.Run(p.name, func(t *testing.T) {
			want := api.BadOrder
			if p.done {
				want = api.Trailing
			}
			for _, x := range strange {
				for _, text := range []string{x.Text, "null", "true", "7", "a"} {
					x.Text = text
					n := behind(t, 9, p.row)
					takes(t, n, x, nil, want)
					isOver(t, n, p.depth)
					holds(t, 9, append(row(p.row), x))
				}
			}
		})
	}
}

// P9.1, P9.2, P9.3 and P9.4: all short rows of tokens, ahead of all and behind each place, so deep that it matters and so deep that it doesn't.
func TestShortRows(t *testing.T) {
	some := append(row(signs), lex.Token{Kind: 10, Text: "nul"}, lex.Token{Kind: 2, Begun: true}, lex.Token{Kind: 11}, lex.Token{})
	var try func(depth int, m model, all []lex.Token, left int)
	try = func(depth int, m model, all []lex.Token, left int) {
		for _, x := range some {
			next := append(slices.Clip(all), x)
			holds(t, depth, next)
			on := m
			if _, kind := on.Take(x); kind == api.Going && left > 1 {
				try(depth, on, next, left-1)
			}
		}
	}
	for _, depth := range []int{1, 2, 9} {
		try(depth, model{depth: depth}, nil, 6)
	}
	for _, p := range places {
		m := model{depth: 9}
		for _, x := range row(p.row) {
			m.Take(x)
		}
		try(9, m, row(p.row), 2)
	}
}

// P9.1: how many may be open, by what New was given, and TooDeep at the next one, of arrays, of objects, and of both.
func TestDepth(t *testing.T) {
	for given, most := range map[int]int{
		math.MinInt: 1, -1000: 1, -1: 1, 0: 1, 1: 1, 2: 2, 3: 3, 5: 5, 63: 63, 64: 64, 65: 65, 66: 66, 127: 127, 128: 128, 129: 129, 200: 200,
	} {
		for _, way := range []string{"[", "[Nn,", "{Ss:", "{Ss:Ww,Ss:", "[{Ss:", "{Ss:["} {
			s, open := "", 0
			for open < most {
				s += way
				open += strings.Count(way, "[") + strings.Count(way, "{")
			}
			for open > most { // a way of two, where one fits
				s = s[:strings.LastIndexAny(s, "[{")]
				open--
			}
			for _, next := range "[{" {
				n := behind(t, given, s)
				tells(t, n, most, false, api.Truncated)
				takes(t, n, token(next, len(s)), nil, api.TooDeep)
				isOver(t, n, most)
			}
		}
	}
}

// P9.1: so many as none hands in may be open, where New was given so many.
func TestGreatDepths(t *testing.T) {
	const many = 1000
	for _, given := range []int{many, many + 1, 1 << 31, 1 << 40, math.MaxInt} {
		tells(t, behind(t, given, strings.Repeat("[", many)), many, false, api.Truncated)
		tells(t, behind(t, given, strings.Repeat("[", many)+strings.Repeat("]", many)), 0, true, api.Accept)
	}
}

// P9.1 and P9.3: it is how many are open that counts, not how many were.
func TestDepthAfterClosing(t *testing.T) {
	holdsAll := func(depth int, s string, last int) {
		t.Helper()
		if got := fault(t, depth, s); got != last {
			t.Errorf("%d deep, %q: %d, want %d", depth, s, got, last)
		}
		holds(t, depth, row(s))
	}
	holdsAll(2, "[[],[],{},[],{}]", api.Going)
	holdsAll(2, "{Ss:[],Ss:{},Ss:[]}", api.Going)
	holdsAll(2, "[[],[[", api.TooDeep)
	holdsAll(2, "[[],{Ss:{", api.TooDeep)
	holdsAll(2, "{Ss:[],Ss:{Ss:[", api.TooDeep)
	holdsAll(3, "[[[]],[[]],{Ss:{}},[[],[]]]", api.Going)
	holdsAll(1, "[]", api.Going)
	holdsAll(1, "{}", api.Going)
	holdsAll(1, "[Nn,Ss,Ww]", api.Going)
	holdsAll(1, "{Ss:Nn,Ss:Ww}", api.Going)
}

// P9.3: an opening one where none goes on isn't TooDeep, however many are open; nor is any other token.
func TestOpeningWhereNoneGoesOn(t *testing.T) {
	for _, s := range []string{"[Nn", "[Ss", "[Ww", "[S", "[N", "[W", "{", "{S", "{Ss", "{Ss:Nn", "{Ss:S", "{Ss:W", "{Ss:Nn,", "{Ss:Nn,Ss"} {
		for _, next := range "[{" {
			for depth := -1; depth < 3; depth++ {
				if got := fault(t, depth, s+string(next)); got != api.BadOrder {
					t.Errorf("%d deep, %q, %c: %d", depth, s, next, got)
				}
			}
		}
	}
	for _, s := range []string{"[]", "{}", "Ss", "Nn", "Ww", "[Nn]"} {
		for _, next := range "[{" {
			if got := fault(t, 1, s+string(next)); got != api.Trailing {
				t.Errorf("%q, %c: %d", s, next, got)
			}
		}
	}
	for _, s := range []string{"[", "[Nn,", "{Ss:"} {
		for _, kind := range []int{2, 4} {
			takes(t, behind(t, 1, s), lex.Token{Kind: kind, Begun: true}, nil, api.BadOrder)
			takes(t, behind(t, 1, s), lex.Token{Kind: kind}, nil, api.TooDeep)
		}
		for _, sign := range ",:snw" {
			if got := fault(t, 1, s+string(sign)); got != api.BadOrder {
				t.Errorf("%q, %c: %d", s, sign, got)
			}
		}
		for _, next := range []string{"Ss", "Nn", "Ww"} {
			if got := fault(t, 1, s+next); got != api.Going {
				t.Errorf("%q, %s: %d", s, next, got)
			}
		}
	}
}

// P9.2: rows of tokens that are texts, and those that aren't, with the least row of each at which it is known.
func TestTexts(t *testing.T) {
	for _, s := range []string{
		"Ss", "Nn", "Ww", "[]", "{}", "[Nn]", "[Nn,Ss,Ww,[],{}]", "{Ss:Nn}", "{Ss:Ss,Ss:Ww,Ss:[],Ss:{}}", "[[[]],[],[[],[]]]",
		"{Ss:{Ss:{}},Ss:{}}", "[{},{Ss:[{}]},[{}]]", "{Ss:[Nn,{Ss:Ss}],Ss:Nn}",
	} {
		tells(t, behind(t, 9, s), 0, true, api.Accept)
		holds(t, 9, row(s))
		for i := range s {
			end := api.Truncated
			if i == 0 {
				end = api.Empty
			}
			n := behind(t, 9, s[:i])
			tells(t, n, strings.Count(s[:i], "[")+strings.Count(s[:i], "{")-strings.Count(s[:i], "]")-strings.Count(s[:i], "}"), false, end)
		}
	}
	for _, s := range []string{
		"]", "}", ",", ":", "[,", "{,", "{:", "[:", "[}", "{]", "[Nn,]", "{Ss:Nn,}", "[Nn}", "{Ss:Nn]", "[{}}", "{Ss:[]]", "[Nn,,", "{Ss:Nn,,",
		"[NnN", "[SsS", "[[][", "[NnW", "{SsS", "{SsN", "{Ss[", "{Ss,", "{Ss}", "{Ss::", "{Ss:,", "{Ss:}", "{Ss:NnS", "{Ss:Nn:", "{N", "{W", "{[", "{{",
		"{Ss:Nn,N", "{Ss:Nn,W", "{Ss:Nn,[", "{Ss:Nn,{", "[Ss:", "[Nn,Ss:", "s", "n", "w", "[s", "{s", "{Ss:n",
	} {
		if got := fault(t, 9, s); got != api.BadOrder {
			t.Errorf("%q: %d", s, got)
		}
		holds(t, 9, row(s))
	}
	for _, whole := range []string{"Ss", "Nn", "Ww", "[]", "{}", "[Nn]", "{Ss:Nn}"} {
		for _, next := range signs {
			if got := fault(t, 9, whole+string(next)); got != api.Trailing {
				t.Errorf("%q, %c: %d", whole, next, got)
			}
		}
	}
}

// P9.3: the chapter's example.
func TestExample(t *testing.T) {
	isEvents(t, `[7]`,
		opens(api.Array, 0, index(0)),
		opens(api.Number, 1, index(0)), closes(api.Number, 1, 2, index(0), "7"),
		closes(api.Array, 0, 3, index(0), ""))
}

// P9.3: the events of each kind of value, whole, in an array, and in an object.
func TestEventsOfEachKind(t *testing.T) {
	for text, x := range map[string]struct {
		begun, ended int
		text         string
	}{
		`"a\n"`: {api.String, api.String, "a\n"}, `""`: {api.String, api.String, ""}, `"true"`: {api.String, api.String, "true"}, "\"\u00e9\"": {api.String, api.String, "\u00e9"},
		`7`: {api.Number, api.Number, "7"}, `-0.50E+07`: {api.Number, api.Number, "-0.50E+07"},
		`null`: {api.Null, api.Null, "null"}, `true`: {api.Null, api.Bool, "true"}, `false`: {api.Null, api.Bool, "false"},
		`[]`: {api.Array, api.Array, ""}, `{}`: {api.Object, api.Object, ""}, "[ \n ]": {api.Array, api.Array, ""}, `{	}`: {api.Object, api.Object, ""},
	} {
		n := len(text)
		isEvents(t, text, opens(x.begun, 0, api.Step{}), closes(x.ended, 0, n, api.Step{}, x.text))
		isEvents(t, "  "+text+" \n", opens(x.begun, 2, api.Step{}), closes(x.ended, 2, n+2, api.Step{}, x.text))
		isEvents(t, "["+text+", "+text+"]",
			opens(api.Array, 0, api.Step{}),
			opens(x.begun, 1, index(0)), closes(x.ended, 1, n+1, index(0), x.text),
			opens(x.begun, n+3, index(1)), closes(x.ended, n+3, 2*n+3, index(1), x.text),
			closes(api.Array, 0, 2*n+4, api.Step{}, ""))
		isEvents(t, `{"a":`+text+`,"": `+text+"}",
			opens(api.Object, 0, api.Step{}),
			opens(x.begun, 5, named("a")), closes(x.ended, 5, n+5, named("a"), x.text),
			opens(x.begun, n+10, named("")), closes(x.ended, n+10, 2*n+10, named(""), x.text),
			closes(api.Object, 0, 2*n+11, api.Step{}, ""))
	}
}

// P9.3: each event comes with its own token: none of a name, a Colon, a Comma; a word is Null as it begins.
func TestEventsComeWithTheirTokens(t *testing.T) {
	n := nest.New(2)
	for _, x := range []struct {
		token  lex.Token
		events []api.Event
	}{
		{lex.Token{Kind: 4, From: 0, To: 1}, []api.Event{opens(api.Object, 0, api.Step{})}},
		{lex.Token{Kind: 8, Begun: true, From: 1, To: 1}, nil},
		{lex.Token{Kind: 8, From: 1, To: 4, Text: "x"}, nil},
		{lex.Token{Kind: 7, From: 4, To: 5}, nil},
		{lex.Token{Kind: 10, Begun: true, From: 6, To: 6}, []api.Event{opens(api.Null, 6, named("x"))}},
		{lex.Token{Kind: 10, From: 6, To: 10, Text: "true"}, []api.Event{closes(api.Bool, 6, 10, named("x"), "true")}},
		{lex.Token{Kind: 6, From: 10, To: 11}, nil},
		{lex.Token{Kind: 8, Begun: true, From: 11, To: 11}, nil},
		{lex.Token{Kind: 8, From: 11, To: 14, Text: "y"}, nil},
		{lex.Token{Kind: 7, From: 14, To: 15}, nil},
		{lex.Token{Kind: 2, From: 15, To: 16}, []api.Event{opens(api.Array, 15, named("y"))}},
		{lex.Token{Kind: 8, Begun: true, From: 16, To: 16}, []api.Event{opens(api.String, 16, index(0))}},
		{lex.Token{Kind: 8, From: 16, To: 19, Text: "z"}, []api.Event{closes(api.String, 16, 19, index(0), "z")}},
		{lex.Token{Kind: 6, From: 19, To: 20}, nil},
		{lex.Token{Kind: 9, Begun: true, From: 20, To: 20}, []api.Event{opens(api.Number, 20, index(1))}},
		{lex.Token{Kind: 9, From: 20, To: 21, Text: "7"}, []api.Event{closes(api.Number, 20, 21, index(1), "7")}},
		{lex.Token{Kind: 3, From: 21, To: 22}, []api.Event{closes(api.Array, 15, 22, named("y"), "")}},
		{lex.Token{Kind: 5, From: 22, To: 23}, []api.Event{closes(api.Object, 0, 23, api.Step{}, "")}},
	} {
		takes(t, n, x.token, x.events, api.Going)
	}
	tells(t, n, 0, true, api.Accept)
}

// P9.3: the count of an outer array goes on behind an inner one, that of each inner one begins anew.
func TestArraysInArrays(t *testing.T) {
	isEvents(t, `[1,[2,[],3],[4],5]`,
		opens(api.Array, 0, api.Step{}),
		opens(api.Number, 1, index(0)), closes(api.Number, 1, 2, index(0), "1"),
		opens(api.Array, 3, index(1)),
		opens(api.Number, 4, index(0)), closes(api.Number, 4, 5, index(0), "2"),
		opens(api.Array, 6, index(1)), closes(api.Array, 6, 8, index(1), ""),
		opens(api.Number, 9, index(2)), closes(api.Number, 9, 10, index(2), "3"),
		closes(api.Array, 3, 11, index(1), ""),
		opens(api.Array, 12, index(2)),
		opens(api.Number, 13, index(0)), closes(api.Number, 13, 14, index(0), "4"),
		closes(api.Array, 12, 15, index(2), ""),
		opens(api.Number, 16, index(3)), closes(api.Number, 16, 17, index(3), "5"),
		closes(api.Array, 0, 18, api.Step{}, ""))
}

// P9.3: the name in an outer object goes on behind the inner one's, and names that come twice are told twice.
func TestObjectsInObjects(t *testing.T) {
	isEvents(t, `{"a":{"b":{},"b":1},"a":{"c":null}}`,
		opens(api.Object, 0, api.Step{}),
		opens(api.Object, 5, named("a")),
		opens(api.Object, 10, named("b")), closes(api.Object, 10, 12, named("b"), ""),
		opens(api.Number, 17, named("b")), closes(api.Number, 17, 18, named("b"), "1"),
		closes(api.Object, 5, 19, named("a"), ""),
		opens(api.Object, 24, named("a")),
		opens(api.Null, 29, named("c")), closes(api.Null, 29, 33, named("c"), "null"),
		closes(api.Object, 24, 34, named("a"), ""),
		closes(api.Object, 0, 35, api.Step{}, ""))
}

// P9.3: arrays in objects and objects in arrays: an index isn't Named, a name has no Index, whatever is around.
func TestArraysAndObjectsInEachOther(t *testing.T) {
	isEvents(t, `[0,{"a":[true,{"b":2}],"c":"d"},"e"]`,
		opens(api.Array, 0, api.Step{}),
		opens(api.Number, 1, index(0)), closes(api.Number, 1, 2, index(0), "0"),
		opens(api.Object, 3, index(1)),
		opens(api.Array, 8, named("a")),
		opens(api.Null, 9, index(0)), closes(api.Bool, 9, 13, index(0), "true"),
		opens(api.Object, 14, index(1)),
		opens(api.Number, 19, named("b")), closes(api.Number, 19, 20, named("b"), "2"),
		closes(api.Object, 14, 21, index(1), ""),
		closes(api.Array, 8, 22, named("a"), ""),
		opens(api.String, 27, named("c")), closes(api.String, 27, 30, named("c"), "d"),
		closes(api.Object, 3, 31, index(1), ""),
		opens(api.String, 32, index(2)), closes(api.String, 32, 35, index(2), "e"),
		closes(api.Array, 0, 36, api.Step{}, ""))
	isEvents(t, `{"a":[[],1]}`,
		opens(api.Object, 0, api.Step{}),
		opens(api.Array, 5, named("a")),
		opens(api.Array, 6, index(0)), closes(api.Array, 6, 8, index(0), ""),
		opens(api.Number, 9, index(1)), closes(api.Number, 9, 10, index(1), "1"),
		closes(api.Array, 5, 11, named("a"), ""),
		closes(api.Object, 0, 12, api.Step{}, ""))
}

// P9.3: names are what the token's Text is, whatever that is.
func TestNames(t *testing.T) {
	for _, name := range []string{"", "a", "0", "null", "\x00", "\xff\xc3", "\u00e9\U0001f600", "\"", "'", strings.Repeat("long", 1000)} {
		n := nest.New(2)
		takes(t, n, lex.Token{Kind: 4}, []api.Event{opens(api.Object, 0, api.Step{})}, api.Going)
		for range 2 {
			takes(t, n, lex.Token{Kind: 8, Begun: true}, nil, api.Going)
			takes(t, n, lex.Token{Kind: 8, Text: name}, nil, api.Going)
			takes(t, n, lex.Token{Kind: 7}, nil, api.Going)
			takes(t, n, lex.Token{Kind: 2}, []api.Event{opens(api.Array, 0, named(name))}, api.Going)
			takes(t, n, lex.Token{Kind: 3}, []api.Event{closes(api.Array, 0, 0, named(name), "")}, api.Going)
			takes(t, n, lex.Token{Kind: 6}, nil, api.Going)
		}
	}
}

// P9.3: From, To and Text are told as the tokens have them, and of those that have no say in it they aren't told.
func TestPlacesAndTextsOfAnyKind(t *testing.T) {
	for _, at := range []int{0, 1, -1, 7, 1 << 31, math.MaxInt, math.MinInt} {
		n := nest.New(2)
		takes(t, n, lex.Token{Kind: 2, From: at, To: 5, Text: "x"}, []api.Event{opens(api.Array, at, api.Step{})}, api.Going)
		takes(t, n, lex.Token{Kind: 4, From: at + 3, To: at, Text: "x"}, []api.Event{opens(api.Object, at+3, index(0))}, api.Going)
		takes(t, n, lex.Token{Kind: 5, From: 9, To: at, Text: "x"}, []api.Event{closes(api.Object, at+3, at, index(0), "")}, api.Going)
		takes(t, n, lex.Token{Kind: 6, From: at, To: at, Text: "x"}, nil, api.Going)
		for i, kind := range []int{api.String, api.Number} {
			step := index(i + 1)
			takes(t, n, lex.Token{Kind: i + 8, Begun: true, From: at, To: 3, Text: "x"}, []api.Event{opens(kind, at, step)}, api.Going)
			takes(t, n, lex.Token{Kind: i + 8, From: at - 2, To: at, Text: "y\xff"}, []api.Event{closes(kind, at-2, at, step, "y\xff")}, api.Going)
			takes(t, n, lex.Token{Kind: 6}, nil, api.Going)
		}
		takes(t, n, lex.Token{Kind: 10, Begun: true, From: at, To: 3, Text: "true"}, []api.Event{opens(api.Null, at, index(3))}, api.Going)
		takes(t, n, lex.Token{Kind: 10, From: at - 2, To: at, Text: "false"}, []api.Event{closes(api.Bool, at-2, at, index(3), "false")}, api.Going)
		takes(t, n, lex.Token{Kind: 3, From: -7, To: at, Text: "x"}, []api.Event{closes(api.Array, at, at, api.Step{}, "")}, api.Going)
		tells(t, n, 0, true, api.Accept)
	}
}

// P9.3: a word ends with one of layer 5's alone; a string and a number with any Text; a name that is no string is refused as it begins.
func TestWordsWithAnotherText(t *testing.T) {
	for _, s := range []string{"W", "[W", "[Nn,W", "{Ss:W", "{Ss:Nn,Ss:W", "[[{Ss:W"} {
		for _, text := range noWords {
			n := behind(t, 9, s)
			depth := n.Depth()
			takes(t, n, lex.Token{Kind: 10, From: 1, To: 2, Text: text}, nil, api.BadOrder)
			isOver(t, n, depth)
		}
		for text, kind := range map[string]int{"null": api.Null, "true": api.Bool, "false": api.Bool} {
			n := behind(t, 9, s)
			events, fault := n.Take(lex.Token{Kind: 10, Text: text})
			if fault != api.Going || len(events) != 1 || events[0].Kind != api.EvClose || events[0].Value != kind || events[0].Text != text {
				t.Errorf("%q, %s: %v, %d", s, text, events, fault)
			}
		}
	}
	for _, text := range append(noWords, "null", "true", "01", "-", "\xff") {
		for sign, kind := range map[rune]int{'S': api.String, 'N': api.Number} {
			n := behind(t, 9, string(sign))
			takes(t, n, lex.Token{Kind: kinds[sign], Text: text}, []api.Event{closes(kind, 0, 0, api.Step{}, text)}, api.Going)
			tells(t, n, 0, true, api.Accept)
		}
	}
}

// P9.3: while one has begun, whatever isn't its end is BadOrder, also what would go on ahead of it or behind it.
func TestWithinATokenThatHasBegun(t *testing.T) {
	for _, around := range []string{"", "[", "[Nn,", "{Ss:", "[[[", "{Ss:{Ss:"} {
		for _, begun := range "SNW" {
			for _, x := range slices.Concat(row(signs), strange, []lex.Token{{Kind: 8, Text: "null"}, {Kind: 9, Text: "true"}, {Kind: 10, Text: "false"}}) {
				want := api.BadOrder
				if !x.Begun && x.Kind == kinds[begun] {
					want = api.Going
				}
				n := behind(t, 9, around+string(begun))
				depth := n.Depth()
				tells(t, n, depth, false, api.Truncated)
				if events, kind := n.Take(x); kind != want || kind != api.Going && len(events) != 0 {
					t.Errorf("%q within %c: Take(%v) = %v, %d, want %d", around, begun, x, events, kind, want)
				}
				if want != api.Going {
					isOver(t, n, depth)
				}
			}
		}
	}
}

// P9.1, P9.3 and P9.4: behind a fault of each kind, and at each depth, nothing goes on any more, and what was open is told still.
func TestBehindAFault(t *testing.T) {
	for s, x := range map[string]struct{ fault, depth int }{
		"]": {api.BadOrder, 0}, "n": {api.BadOrder, 0}, "NN": {api.BadOrder, 0}, "[Nn,]": {api.BadOrder, 1}, "{Ss:Nn]": {api.BadOrder, 1},
		"[[[[]}": {api.BadOrder, 3}, "{Ss:{Ss:S{": {api.BadOrder, 2}, "[[[[[": {api.TooDeep, 4}, "{Ss:{Ss:{Ss:{Ss:{": {api.TooDeep, 4},
		"[[]]]": {api.Trailing, 0}, "NnN": {api.Trailing, 0}, "{}}": {api.Trailing, 0}, "Ss,": {api.Trailing, 0}, "Ww:": {api.Trailing, 0},
	} {
		if got := fault(t, 4, s); got != x.fault {
			t.Errorf("%q: %d, want %d", s, got, x.fault)
		}
		n := nest.New(4)
		for _, token := range row(s) {
			n.Take(token)
		}
		isOver(t, n, x.depth)
	}
}

// P9.4: Close tells what is there, and changes nothing: tokens go on behind it.
func TestTakeBehindClose(t *testing.T) {
	const s = "{Ss:[Nn,Ww],Ss:Ss}"
	asked, other := nest.New(2), nest.New(2)
	for i, x := range row(s) {
		for range 3 {
			if end := asked.Close(); (i == 0) != (end == api.Empty) || i > 0 && end != api.Truncated {
				t.Fatalf("behind %q: Close = %d", s[:i], end)
			}
		}
		want, _ := other.Take(x)
		takes(t, asked, x, want, api.Going)
	}
	for range 3 {
		tells(t, asked, 0, true, api.Accept)
	}
	takes(t, asked, token('[', 0), nil, api.Trailing)
}

// P9.1 to P9.4: long texts of some shape, held against the model.
func TestLongRows(t *testing.T) {
	seed := uint32(1)
	below := func(n uint32) uint32 {
		seed = seed*1664525 + 1013904223
		return (seed >> 8) % n
	}
	var value func(left uint32) string
	value = func(left uint32) string {
		items := make([]string, below(4))
		switch kind := below(5); {
		case left > 0 && kind < 2:
			for i := range items {
				items[i] = value(left - 1)
			}
			return "[" + strings.Join(items, ",") + "]"
		case left > 0 && kind < 4:
			for i := range items {
				items[i] = "Ss:" + value(left-1)
			}
			return "{" + strings.Join(items, ",") + "}"
		}
		return []string{"Ss", "Nn", "Ww"}[below(3)]
	}
	for i := range 300 {
		s := value(5)
		if len(s) > 300 {
			s = s[:300]
		}
		for _, depth := range []int{2, 4, 9} {
			holds(t, depth, row(s+string(signs[i%len(signs)])))
		}
		wrong := []byte(s)
		wrong[below(uint32(len(s)))] = signs[below(uint32(len(signs)))]
		holds(t, 9, row(string(wrong)))
	}
}

// deep takes so many arrays and objects, one in the other, of the kinds that a rule tells, each as the second item of the one around it; and their ends.
func deep(t *testing.T, n *nest.Nest, many int, object func(i int) bool) {
	t.Helper()
	step := api.Step{}
	steps := make([]api.Step, many)
	values := map[bool]int{false: api.Array, true: api.Object}
	for i := range many {
		steps[i] = step
		opening, name := token('[', i), strconv.Itoa(i)
		if object(i) {
			opening = token('{', i)
		}
		takes(t, n, opening, []api.Event{opens(values[object(i)], i, step)}, api.Going)
		for j, x := range []string{"first", name} {
			step = index(j)
			if object(i) {
				step = named(x)
				takes(t, n, lex.Token{Kind: 8, Begun: true}, nil, api.Going)
				takes(t, n, lex.Token{Kind: 8, Text: x}, nil, api.Going)
				takes(t, n, lex.Token{Kind: 7}, nil, api.Going)
			}
			if j == 0 {
				takes(t, n, lex.Token{Kind: 9, Begun: true}, []api.Event{opens(api.Number, 0, step)}, api.Going)
				takes(t, n, lex.Token{Kind: 9, Text: "7"}, []api.Event{closes(api.Number, 0, 0, step, "7")}, api.Going)
				takes(t, n, lex.Token{Kind: 6}, nil, api.Going)
			}
		}
		if n.Depth() != i+1 || n.Done() {
			t.Fatalf("Depth = %d, Done = %v, want %d", n.Depth(), n.Done(), i+1)
		}
	}
	takes(t, n, lex.Token{Kind: 8, Begun: true, From: 3}, []api.Event{opens(api.String, 3, step)}, api.Going)
	takes(t, n, lex.Token{Kind: 8, From: 3, To: 5, Text: "in"}, []api.Event{closes(api.String, 3, 5, step, "in")}, api.Going)
	for i := many - 1; i >= 0; i-- {
		closing := token(']', 3*many-i)
		if object(i) {
			closing = token('}', 3*many-i)
		}
		takes(t, n, closing, []api.Event{closes(values[object(i)], i, 3*many-i+1, steps[i], "")}, api.Going)
		if n.Depth() != i || n.Done() != (i == 0) {
			t.Fatalf("Depth = %d, Done = %v, want %d", n.Depth(), n.Done(), i)
		}
	}
	tells(t, n, 0, true, api.Accept)
}

// P9.1 and P9.3: deep nests of each kind, also deeper than a word of layer 8 has bits; as deep as may be, and one more.
func TestDeepNests(t *testing.T) {
	for _, object := range []func(i int) bool{
		func(int) bool { return false }, func(int) bool { return true },
		func(i int) bool { return i%2 == 0 }, func(i int) bool { return i%64 == 0 }, func(i int) bool { return i%65 == 63 },
		func(i int) bool { return (i*i/7+i/5)%3 == 0 },
	} {
		for _, many := range []int{1, 2, 63, 64, 65, 128, 129, 1000} {
			deep(t, nest.New(many), many, object)
		}
	}
	const most = 1 << 16
	deep(t, nest.New(most), most, func(i int) bool { return i%3 == 0 })
	n := behind(t, most, strings.Repeat("[", most))
	takes(t, n, token('{', most), nil, api.TooDeep)
	isOver(t, n, most)
}

// P1: many items, and many that open and close, are taken in time that grows no faster than they do.
func TestManyItems(t *testing.T) {
	const many = 1 << 18
	n := nest.New(2)
	n.Take(token('[', 0))
	for i := range many {
		if i > 0 {
			takes(t, n, token(',', 0), nil, api.Going)
		}
		takes(t, n, token('{', 3), []api.Event{opens(api.Object, 3, index(i))}, api.Going)
		takes(t, n, token('}', 4), []api.Event{closes(api.Object, 3, 5, index(i), "")}, api.Going)
	}
	tells(t, n, 1, false, api.Truncated)
	takes(t, n, token(']', 9), []api.Event{closes(api.Array, 0, 10, api.Step{}, "")}, api.Going)
	tells(t, n, 0, true, api.Accept)
}

// P9.3 and the rules: events once answered are not changed by what comes later, and what is written over them, and into their spare room, changes nothing to come.
func TestEventsAreNewMemory(t *testing.T) {
	const s = "{Ss:[Nn,Ww,[]],Ss:{Ss:Ss},Ss:Nn}"
	kept, written, m := nest.New(9), nest.New(9), &model{depth: 9}
	wrong := api.Event{Kind: 99, Value: 99, From: 99, To: 99, Step: api.Step{Named: true, Name: "wrong", Index: 99}, Text: "wrong"}
	var answers, want, rooms [][]api.Event
	for _, x := range row(s) {
		events, _ := kept.Take(x)
		model, _ := m.Take(x)
		answers, want = append(answers, events), append(want, model)
		events, _ = written.Take(x)
		if !slices.Equal(events, model) {
			t.Fatalf("Take(%v) = %v, want %v", x, events, model)
		}
		events = events[:cap(events)]
		for i := range events {
			events[i] = wrong
			events[i].From = len(rooms)
		}
		rooms = append(rooms, events)
	}
	for i, room := range rooms {
		wrong.From = i
		if slices.ContainsFunc(room, func(e api.Event) bool { return e != wrong }) {
			t.Errorf("the room of answer %d was written into: %v", i, room)
		}
	}
	for i := range answers {
		if !slices.Equal(answers[i], want[i]) {
			t.Errorf("answer %d was changed: %v, not %v", i, answers[i], want[i])
		}
	}
}

// P2: nests stand alone, whatever is taken by another one, and how often whichever is asked.
func TestNestsStandAlone(t *testing.T) {
	const one, other = "[Nn,{Ss:[Ww]},Ss]", "{Ss:{Ss:Nn},Ss:[]"
	a, b := nest.New(3), nest.New(2)
	first, second := &model{depth: 3}, &model{depth: 2}
	take := func(n *nest.Nest, m *model, s string, i int) {
		t.Helper()
		if i < len(s) {
			want, kind := m.Take(token(rune(s[i]), i))
			takes(t, n, token(rune(s[i]), i), want, kind)
		}
		tells(t, n, m.Depth(), m.Done(), m.Close())
	}
	for i := range max(len(one), len(other)) {
		take(a, first, one, i)
		take(b, second, other, i)
		tells(t, nest.New(1), 0, false, api.Empty)
	}
	takes(t, b, token('{', 0), nil, api.BadOrder)
	isOver(t, b, 1)
	tells(t, a, 0, true, api.Accept)
	holds(t, 3, row(one))
}
