package tree_test

import (
	"slices"
	"strconv"
	"strings"
	"testing"

	"riffle/api"
	"riffle/lex"
	"riffle/nest"
	"riffle/tree"
)

// notes has a letter for each kind of values: null, bool, number, string, array, object.
const notes = "zbnsao"

// note writes a value down with all that it has: the letter of its Kind, From, To, Text, and its
// items, of an object behind their names.
func note(v api.Value) string {
	s := "?" + strconv.Itoa(v.Kind) + "?"
	if 0 <= v.Kind && v.Kind < len(notes) {
		s = notes[v.Kind : v.Kind+1]
	}
	s += strconv.Itoa(v.From) + "-" + strconv.Itoa(v.To)
	if v.Text != "" {
		s += strconv.Quote(v.Text)
	}
	var inner []string
	for i, x := range v.Items {
		name := ""
		if i < len(v.Names) {
			name = strconv.Quote(v.Names[i])
		}
		inner = append(inner, name+note(x))
	}
	for i := len(v.Items); i < len(v.Names); i++ {
		inner = append(inner, strconv.Quote(v.Names[i])+"!")
	}
	if len(inner) > 0 {
		s += "(" + strings.Join(inner, " ") + ")"
	}
	return s
}

// noteSoFar writes down what Now, Root, Part and At answer.
func noteSoFar(v api.Value, ok bool) string {
	if !ok && note(v) == "z0-0" {
		return "none"
	}
	if !ok {
		return "none, but " + note(v)
	}
	return note(v)
}

// equal: are two values one, with where they stand?
func equal(a, b api.Value) bool {
	return a.Kind == b.Kind && a.From == b.From && a.To == b.To && a.Text == b.Text && slices.Equal(a.Names, b.Names) && slices.EqualFunc(a.Items, b.Items, equal)
}

// copied is a value in memory of its own.
func copied(v api.Value) api.Value {
	v.Names = slices.Clone(v.Names)
	v.Items = slices.Clone(v.Items)
	for i := range v.Items {
		v.Items[i] = copied(v.Items[i])
	}
	return v
}

// scribble writes over all lists of a value, spare room included.
func scribble(v api.Value) {
	for _, x := range v.Items {
		scribble(x)
	}
	for i := range v.Items[:cap(v.Items)] {
		v.Items[:cap(v.Items)][i] = api.Value{Kind: 99, From: 99, To: 99, Text: "scribbled"}
	}
	for i := range v.Names[:cap(v.Names)] {
		v.Names[:cap(v.Names)][i] = "scribbled"
	}
}

// eventsOf is all events of a text.
func eventsOf(t *testing.T, s string) []api.Event {
	t.Helper()
	tokens, x := lex.All([]byte(s))
	if x.Kind != api.Accept {
		t.Fatalf("All(%q) = %v", s, x)
	}
	n := nest.New(1 << 20)
	var all []api.Event
	for _, token := range tokens {
		events, fault := n.Take(token)
		if fault != api.Going {
			t.Fatalf("%q: Take(%v) = %d", s, token, fault)
		}
		all = append(all, events...)
	}
	return all
}

// soFar is the value so far of events, the first of which begins it, and how many of them are its own.
func soFar(events []api.Event) (api.Value, int) {
	v := api.Value{Kind: events[0].Value, From: events[0].From}
	for i := 1; i < len(events); {
		e := events[i]
		if e.Kind == api.EvClose {
			v.Kind, v.To, v.Text = e.Value, e.To, e.Text
			return v, i + 1
		}
		item, n := soFar(events[i:])
		v.Items = append(v.Items, item)
		if e.Step.Named {
			v.Names = append(v.Names, e.Step.Name)
		}
		i += n
	}
	return v, len(events)
}

// ended: has each value ended of which there are events?
func ended(events []api.Event) bool {
	open := 0
	for _, e := range events {
		open += map[int]int{api.EvOpen: 1, api.EvClose: -1}[e.Kind]
	}
	return len(events) > 0 && open == 0
}

// holds holds what a Builder answers, twice, since asking changes nothing.
func holds(t *testing.T, b *tree.Builder, now, root string) {
	t.Helper()
	for range 2 {
		if got := noteSoFar(b.Now()); got != now {
			t.Fatalf("Now is %s, want %s", got, now)
		}
		if got := noteSoFar(b.Root()); got != root {
			t.Fatalf("Root is %s, want %s", got, root)
		}
	}
}

// opens and closes are events, for short.
func opens(value, from int, step api.Step) api.Event {
	return api.Event{Kind: api.EvOpen, Value: value, From: from, Step: step}
}

func closes(value, from, to int, step api.Step, text string) api.Event {
	return api.Event{Kind: api.EvClose, Value: value, From: from, To: to, Step: step, Text: text}
}

func index(i int) api.Step { return api.Step{Index: i} }

func named(name string) api.Step { return api.Step{Named: true, Name: name} }

// texts has texts of all kinds of values.
var texts = []string{
	`null`, `true`, `false`, `0`, `-1.5e+3`, `""`, `"a\n\u00e9\ud83d\ude00"`, `[]`, `{}`, ` [ ] `, "\n{\t}\r",
	`[1]`, `[1,2,3]`, `["a",true,null,[],{}]`, `[[[]]]`, `[[1,[2]],[3]]`, `[[],[],[[]]]`,
	`{"a":1}`, `{"a":1,"b":"x","":null}`, `{"a":1,"a":2,"a":3}`, `{"a":{"a":{"a":[]}}}`, `{"a":[1,{"b":[{}]}],"c":{"d":false,"e":[true]}}`,
	` { "a" : [ 1 , { "b" : null } ] , "a" : "z" } `, `[{"a":1},{"a":2},{}]`, `[1,"a",{"k":[-0.5,"\"",{"":""}]},[[null,true,false]],7]`,
}

// P10.1: a Builder ahead of all.
func TestBuilderAheadOfAll(t *testing.T) {
	var b tree.Builder
	holds(t, &b, "none", "none")
	holds(t, &tree.Builder{}, "none", "none")
	holds(t, new(tree.Builder), "none", "none")
}

// P10.1: Now and Root behind each event of each kind of value.
func TestBuilderAtEachEvent(t *testing.T) {
	type row struct {
		e         api.Event
		now, root string
	}
	none := api.Step{}
	for name, rows := range map[string][]row{
		"null":   {{opens(api.Null, 3, none), "z3-0", "none"}, {closes(api.Null, 3, 7, none, "null"), `z3-7"null"`, `z3-7"null"`}},
		"true":   {{opens(api.Null, 0, none), "z0-0", "none"}, {closes(api.Bool, 0, 4, none, "true"), `b0-4"true"`, `b0-4"true"`}},
		"false":  {{opens(api.Null, 1, none), "z1-0", "none"}, {closes(api.Bool, 1, 6, none, "false"), `b1-6"false"`, `b1-6"false"`}},
		"number": {{opens(api.Number, 2, none), "n2-0", "none"}, {closes(api.Number, 2, 4, none, "12"), `n2-4"12"`, `n2-4"12"`}},
		"string": {{opens(api.String, 0, none), "s0-0", "none"}, {closes(api.String, 0, 4, none, "\n"), `s0-4"\n"`, `s0-4"\n"`}},
		"empty":  {{opens(api.String, 0, none), "s0-0", "none"}, {closes(api.String, 0, 2, none, ""), `s0-2`, `s0-2`}},
		"array":  {{opens(api.Array, 5, none), "a5-0", "none"}, {closes(api.Array, 5, 7, none, ""), "a5-7", "a5-7"}},
		"object": {{opens(api.Object, 5, none), "o5-0", "none"}, {closes(api.Object, 5, 7, none, ""), "o5-7", "o5-7"}},
		`[1,[true]]`: {
			{opens(api.Array, 0, none), "a0-0", "none"},
			{opens(api.Number, 1, index(0)), "a0-0(n1-0)", "none"},
			{closes(api.Number, 1, 2, index(0), "1"), `a0-0(n1-2"1")`, "none"},
			{opens(api.Array, 3, index(1)), `a0-0(n1-2"1" a3-0)`, "none"},
			{opens(api.Null, 4, index(0)), `a0-0(n1-2"1" a3-0(z4-0))`, "none"},
			{closes(api.Bool, 4, 8, index(0), "true"), `a0-0(n1-2"1" a3-0(b4-8"true"))`, "none"},
			{closes(api.Array, 3, 9, index(1), ""), `a0-0(n1-2"1" a3-9(b4-8"true"))`, "none"},
			{closes(api.Array, 0, 10, none, ""), `a0-10(n1-2"1" a3-9(b4-8"true"))`, `a0-10(n1-2"1" a3-9(b4-8"true"))`},
		},
		`{"a":"x","":{"a":1},"a":[]}`: {
			{opens(api.Object, 0, none), "o0-0", "none"},
			{opens(api.String, 5, named("a")), `o0-0("a"s5-0)`, "none"},
			{closes(api.String, 5, 8, named("a"), "x"), `o0-0("a"s5-8"x")`, "none"},
			{opens(api.Object, 12, named("")), `o0-0("a"s5-8"x" ""o12-0)`, "none"},
			{opens(api.Number, 17, named("a")), `o0-0("a"s5-8"x" ""o12-0("a"n17-0))`, "none"},
			{closes(api.Number, 17, 18, named("a"), "1"), `o0-0("a"s5-8"x" ""o12-0("a"n17-18"1"))`, "none"},
			{closes(api.Object, 12, 19, named(""), ""), `o0-0("a"s5-8"x" ""o12-19("a"n17-18"1"))`, "none"},
			{opens(api.Array, 24, named("a")), `o0-0("a"s5-8"x" ""o12-19("a"n17-18"1") "a"a24-0)`, "none"},
			{closes(api.Array, 24, 26, named("a"), ""), `o0-0("a"s5-8"x" ""o12-19("a"n17-18"1") "a"a24-26)`, "none"},
			{closes(api.Object, 0, 27, none, ""), `o0-27("a"s5-8"x" ""o12-19("a"n17-18"1") "a"a24-26)`, `o0-27("a"s5-8"x" ""o12-19("a"n17-18"1") "a"a24-26)`},
		},
	} {
		t.Run(name, func(t *testing.T) {
			var b tree.Builder
			for _, r := range rows {
				b.Take(r.e)
				holds(t, &b, r.now, r.root)
			}
		})
	}
}

// P10.1: of each text, at each event, the value so far is what its events tell; and the rows above are layer 9's events.
func TestBuilderOfTexts(t *testing.T) {
	for _, s := range texts {
		var b tree.Builder
		events := eventsOf(t, s)
		for i, e := range events {
			b.Take(e)
			want, _ := soFar(events[:i+1])
			root := "none"
			if ended(events[:i+1]) {
				root = note(want)
			}
			holds(t, &b, note(want), root)
		}
		if _, ok := b.Root(); !ok {
			t.Errorf("%s: no Root", s)
		}
	}
}

// P10.1: what was answered once doesn't change by what is taken later, nor what is answered later by what is done to it.
func TestBuilderAnswersAreNew(t *testing.T) {
	for _, s := range texts {
		var b, kept tree.Builder
		var answers, wanted []api.Value
		for _, e := range eventsOf(t, s) {
			b.Take(e)
			kept.Take(e)
			v, _ := kept.Now()
			w, _ := kept.Root()
			answers, wanted = append(answers, v, w), append(wanted, copied(v), copied(w))
			for range 2 {
				x, _ := b.Now()
				y, _ := b.Root()
				if !equal(x, v) || !equal(y, w) {
					t.Fatalf("%s: %s and %s, want %s and %s", s, note(x), note(y), note(v), note(w))
				}
				scribble(x)
				if !equal(y, w) {
					t.Fatalf("%s: Root shares memory with Now", s)
				}
				scribble(y)
			}
		}
		if !slices.EqualFunc(answers, wanted, equal) {
			t.Errorf("%s: an answer changed later", s)
		}
	}
}

// P10.1 and P2: two Builders know nothing of one another.
func TestTwoBuilders(t *testing.T) {
	var a, b tree.Builder
	one, other := eventsOf(t, `[1,{"a":[2]}]`), eventsOf(t, `{"x":[[]],"y":true}`)
	for i := range max(len(one), len(other)) {
		if i < len(one) {
			a.Take(one[i])
		}
		if i < len(other) {
			b.Take(other[i])
		}
	}
	holds(t, &a, `a0-13(n1-2"1" o3-12("a"a8-11(n9-10"2")))`, `a0-13(n1-2"1" o3-12("a"a8-11(n9-10"2")))`)
	holds(t, &b, `o0-19("x"a5-9(a6-8) "y"b14-18"true")`, `o0-19("x"a5-9(a6-8) "y"b14-18"true")`)
}

// P1: events that layer 9 doesn't hand out so: nothing is promised of them but that no call panics.
func TestBuilderOfStrangeEvents(t *testing.T) {
	strange := []api.Event{
		{}, {Kind: -1}, {Kind: 3}, {Kind: api.EvClose}, {Kind: api.EvOpen}, opens(api.Array, 0, index(-5)), opens(api.Number, -1, named("a")), opens(99, 7, index(3)),
		closes(api.Array, 9, -1, named("x"), "y"), closes(-7, 0, 0, index(1), ""),
	}
	var all func(events []api.Event, left int)
	all = func(events []api.Event, left int) {
		var b tree.Builder
		for _, e := range events {
			b.Take(e)
			b.Now()
			b.Root()
		}
		for _, e := range strange {
			if left > 0 {
				all(append(slices.Clip(events), e), left-1)
			}
		}
	}
	all(nil, 4)
	for _, s := range texts {
		all(eventsOf(t, s), 2)
	}
}
