package hang_test

import (
	"reflect"
	"slices"
	"strconv"
	"strings"
	"testing"

	"riffle/api"
	"riffle/eval"
	"riffle/hang"
	"riffle/path"
	"riffle/query"
	"riffle/tree"
	"riffle/write"
)

// meeting is that an item of an array, or of an object, is met by a selector.
type meeting struct {
	of api.Value
	by api.Selector
	i  int
}

// hangs, among: what the chapter asks of a meeting, by its words and those of layer 12 and 16.
func (m meeting) hangs() bool {
	if m.of.Kind != api.Array {
		return false
	}
	if m.by.Kind == api.ByIndex {
		return m.by.Index < 0
	}
	below := m.by.HasStart && m.by.Start < 0 || m.by.HasEnd && m.by.End < 0
	return m.by.Kind == api.BySlice && (m.by.Stride < 0 || m.by.Stride > 0 && below)
}

func (m meeting) among() bool { return slices.Contains(eval.Children(m.of, m.by), m.i) }

// allWays has the meetings of each way, possible or not, to where the places lead.
func allWays(v api.Value, q api.Query, places []int) [][]meeting {
	if len(places) == 0 {
		if len(q) == 0 {
			return [][]meeting{nil}
		}
		return nil
	}
	if len(q) == 0 {
		return nil
	}
	var l [][]meeting
	item := v.Items[places[0]]
	for _, s := range q[0].Selectors {
		for _, way := range allWays(item, q[1:], places[1:]) {
			l = append(l, append([]meeting{{of: v, by: s, i: places[0]}}, way...))
		}
	}
	if q[0].Deep {
		l = append(l, allWays(item, q, places[1:])...)
	}
	return l
}

// possible tells whether a way is.
func possible(way []meeting) bool {
	return !slices.ContainsFunc(way, func(m meeting) bool { return !m.hangs() && !m.among() })
}

// holdsFrom is the place from which a possible way holds.
func holdsFrom(way []meeting) (int, bool) {
	at := 0
	for _, m := range way {
		if !m.hangs() {
			continue
		}
		if m.of.To == 0 || !m.among() {
			return 0, false
		}
		at = max(at, m.of.To)
	}
	return at, true
}

// failsFrom is the place from which a possible way fails.
func failsFrom(way []meeting) (int, bool) {
	var l []int
	for _, m := range way {
		if m.hangs() && m.of.To != 0 && !m.among() {
			l = append(l, m.of.To)
		}
	}
	if len(l) == 0 {
		return 0, false
	}
	return slices.Min(l), true
}

// fateByWords is Of, of places that lead to a node.
func fateByWords(v api.Value, q api.Query, places []int) hang.Fate {
	var holds, fails []int
	many := 0
	for _, way := range allWays(v, q, places) {
		if !possible(way) {
			continue
		}
		many++
		if at, ok := holdsFrom(way); ok {
			holds = append(holds, at)
		}
		if at, ok := failsFrom(way); ok {
			fails = append(fails, at)
		}
	}
	f := hang.Fate{May: many > 0, Holds: -1, Fails: -1}
	if len(holds) > 0 {
		f.Holds = slices.Min(holds)
	}
	if many > 0 && len(fails) == many {
		f.Fails = slices.Max(fails)
	}
	return f
}

// node is one by its places and steps.
type node struct {
	v      api.Value
	places []int
	steps  []api.Step
}

// allNodes has all nodes of a value, each ahead of what is in it.
func allNodes(o node) []node {
	l := []node{o}
	for i, item := range o.v.Items {
		s := api.Step{Index: i}
		if o.v.Kind == api.Object {
			s = api.Step{Named: true, Name: o.v.Names[i]}
		}
		l = append(l, allNodes(node{item, append(slices.Clone(o.places), i), append(slices.Clone(o.steps), s)})...)
	}
	return l
}

// hitsByWords is Hits: what isn't known isn't there, and what is known later comes later.
func hitsByWords(v api.Value, queries ...api.Query) []hang.Hit {
	var l []hang.Hit
	for _, o := range allNodes(node{v: v}) {
		for number, q := range queries {
			f := fateByWords(v, q, o.places)
			if o.v.To == 0 || f.Holds == -1 {
				continue
			}
			h := hang.Hit{Query: number, Steps: o.steps, From: o.v.From, To: o.v.To, Ready: max(o.v.To, f.Holds)}
			at := len(l)
			for at > 0 && later(l[at-1], h) {
				at--
			}
			l = slices.Insert(l, at, h)
		}
	}
	return l
}

// later tells whether a hit comes behind another one.
func later(a, b hang.Hit) bool {
	if a.Ready != b.Ready {
		return a.Ready > b.Ready
	}
	if a.From != b.From {
		return a.From > b.From
	}
	return a.Query > b.Query
}

// same tells whether hits are the same, in order.
func same(a, b []hang.Hit) bool {
	return slices.EqualFunc(a, b, func(x, y hang.Hit) bool {
		return x.Query == y.Query && slices.Equal(x.Steps, y.Steps) && x.From == y.From && x.To == y.To && x.Ready == y.Ready
	})
}

// part is the value so far of a text's beginning.
func part(t *testing.T, text string) api.Value {
	t.Helper()
	v, begun, x := tree.Part([]byte(text), len(text)+1, false)
	if !begun || x.Kind != api.Going {
		t.Fatalf("%.60s is no beginning of a text: %v", text, x)
	}
	return v
}

// whole is the value of a text.
func whole(t *testing.T, text string) api.Value {
	t.Helper()
	v, x := tree.Parse([]byte(text), len(text)+1)
	if x.Kind != api.Accept {
		t.Fatalf("%.60s is no text: %v", text, x)
	}
	return v
}

// parsed is a query by its text; all are those of several texts.
func parsed(t *testing.T, s string) api.Query {
	t.Helper()
	q, ok := query.Parse(s)
	if !ok {
		t.Fatalf("%.60s is no query", s)
	}
	return q
}

func all(t *testing.T, texts ...string) []api.Query {
	t.Helper()
	var l []api.Query
	for _, s := range texts {
		l = append(l, parsed(t, s))
	}
	return l
}

// texts has texts of all kinds of values, within each other.
func texts() []string {
	return []string{
		"1", `"ab"`, "null", "[]", "{}", " [ ] ", "[[]]", "[{}]", `{"a":[]}`, "[0]", "[0,1]",
		`{"a":[5,{"a":6}]}`,
		`{"a":1,"b":2,"a":3}`,
		`{"a":{"a":1},"a":{"a":2,"b":[3]},"b":{"a":[4,{"a":5}]}}`,
		"[[1,2,3],[4,5],[6],[]]",
		"[[[[[[]]]]]]",
		"[[[1,2],[3]],[[4]]]",
		` [ 1 , [ 2 , {"a" : [ 3, {"b": [4 ] } ] } ] , [ ] ]  `,
		"[true,[false,null,[true]],\"x\"]",
		`[{"a":[1,2]},{"b":[3,4]},{"a":[5],"b":{"a":[6,7]}}]`,
	}
}

// beginnings has what is known of a text as it comes, byte by byte: its values so far, and the whole one.
func beginnings(t *testing.T, text string) []api.Value {
	t.Helper()
	var l []api.Value
	for n := range len(text) + 1 {
		v, begun, _ := tree.Part([]byte(text[:n]), len(text), false)
		if begun && (len(l) == 0 || !reflect.DeepEqual(v, l[len(l)-1])) {
			l = append(l, v)
		}
	}
	return append(l, whole(t, text))
}

// segments has small segments: of one selector, and of two.
func segments() []string {
	single := []string{"'a'", "'b'", "*", "0", "1", "-1", "-2", "-3", ":", "1:", "-2:", ":1", ":-1", "-2:-1", "::2", "1::2", "-3::2", "::-1", "::-2", "1::-1", "-2::-1", ":0:-1", ":-2:-1", "::0", "-1::0"}
	var l []string
	for _, s := range single {
		l = append(l, "["+s+"]", "..["+s+"]")
	}
	for _, s := range []string{"'a',-1", "0,-1", "-1,0", "-1,-1", "-1,-2", "*,-1", "-1,*", "-2:,:-1", "::-1,*", "'a','b'"} {
		l = append(l, "["+s+"]", "..["+s+"]")
	}
	return l
}

// few has fewer of them.
func few() []string {
	return []string{"['a']", "[*]", "[0]", "[-1]", "[:-1]", "[-1,-2]", "[0,-1]", "..['a']", "..[*]", "..[0]", "..[-1]", "..[-2]", "..[1:-1]", "..[*,-1]", "..[-1,'a']"}
}

// smallQueries has all queries of one segment, all of two of which one is of few, and all of three of some of these.
func smallQueries(t *testing.T) []api.Query {
	t.Helper()
	l := []string{"$"}
	for _, a := range segments() {
		l = append(l, "$"+a)
		for _, b := range few() {
			l = append(l, "$"+a+b, "$"+b+a)
		}
	}
	some := few()[3:11]
	for _, a := range some {
		for _, b := range some {
			for _, c := range some {
				l = append(l, "$"+a+b+c)
			}
		}
	}
	return all(t, l...)
}

// each goes on with each of the texts, side by side.
func each(t *testing.T, l []string, do func(t *testing.T, text string)) {
	for _, text := range l {
		t.Run(text, func(t *testing.T) {
			t.Parallel()
			do(t, text)
		})
	}
}

// P17.1: of each beginning of texts, all nodes, and all small queries, the Fate is that of the chapter's words;
// and what is known once stays: a Fate that may be does from the beginning of its node on, Holds and Fails stay as
// soon as they are known, never both, and when all has ended one of them is.
func TestOfByWords(t *testing.T) {
	queries := smallQueries(t)
	each(t, texts(), func(t *testing.T, text string) {
		fates := make([]map[string]hang.Fate, len(queries))
		values := beginnings(t, text)
		for n, v := range values {
			nodes := allNodes(node{v: v})
			for i, q := range queries {
				if n == 0 {
					fates[i] = map[string]hang.Fate{}
				}
				for _, o := range nodes {
					f := hang.Of(v, q, o.places...)
					if want := fateByWords(v, q, o.places); f != want {
						t.Fatalf("%d: Of %v by %s = %v, want %v", n, o.places, write.Text(q), f, want)
					}
					key := path.Put(o.steps...) + strconv.Itoa(o.v.From)
					ahead, begun := fates[i][key]
					if begun && (f.May != ahead.May || ahead.Holds != -1 && f != ahead || ahead.Fails != -1 && f != ahead) {
						t.Fatalf("%d: Of %v by %s = %v, behind %v", n, o.places, write.Text(q), f, ahead)
					}
					fates[i][key] = f
					if f.Holds != -1 && f.Fails != -1 || n == len(values)-1 && f.May && f.Holds == f.Fails {
						t.Fatalf("%d: Of %v by %s = %v", n, o.places, write.Text(q), f)
					}
				}
			}
		}
	})
}

// P17.2: of each beginning of texts, and all small queries, alone and several, the Hits are those of the chapter's words.
func TestHitsByWords(t *testing.T) {
	queries := smallQueries(t)
	each(t, texts(), func(t *testing.T, text string) {
		for n, v := range beginnings(t, text) {
			for i := n % 3; i < len(queries); i += 3 {
				one := queries[i]
				if got, want := hang.Hits(v, one), hitsByWords(v, one); !same(got, want) {
					t.Fatalf("%d by %s: %v, want %v", n, write.Text(one), got, want)
				}
				if i%8 > 0 {
					continue
				}
				some := []api.Query{one, queries[(i*7+n)%len(queries)], queries[0], queries[(i*31+5*n)%len(queries)], one}
				if got, want := hang.Hits(v, some...), hitsByWords(v, some...); !same(got, want) {
					t.Fatalf("%d by %s and others: %v, want %v", n, write.Text(one), got, want)
				}
			}
		}
	})
}

// P17.3: of a whole text's value the Hits of a query, by From, are the nodes of layer 16, each once.
func TestHitsAreNodes(t *testing.T) {
	for _, text := range append(texts(), `{"":[[],{}],"x":{"a":[[1,[2,3]],{"a":[4,5,6]}]},"a":[[7],[8,9]]}`) {
		v := whole(t, text)
		for _, q := range smallQueries(t) {
			l := hang.Hits(v, q)
			slices.SortFunc(l, func(a, b hang.Hit) int { return a.From - b.From })
			if !slices.EqualFunc(l, eval.Nodes(v, q), func(h hang.Hit, n eval.Node) bool {
				return h.Query == 0 && slices.Equal(h.Steps, n.Steps) && h.From == n.From && h.To == n.To && h.Ready >= h.To && h.Ready <= v.To
			}) {
				t.Fatalf("%s by %s: %v, want %v", text, write.Text(q), l, eval.Nodes(v, q))
			}
		}
	}
}

// P17.1: what Holds says of a value so far is so however the text goes on; and what Fails says, or that it may not be, isn't.
func TestKnownIsSo(t *testing.T) {
	const text = `[[1,[2],{"a":[3,4],"a":5}],[6,[7,8,[9]]],{"b":[10]}]`
	queries := smallQueries(t)
	for n := 1; n < len(text); n++ {
		v := part(t, text[:n])
		nodes := allNodes(node{v: v})
		for _, more := range goOn(text[:n]) {
			later := whole(t, more)
			for i := n % 5; i < len(queries); i += 5 {
				q := queries[i]
				selected := map[int]bool{}
				for _, o := range eval.Nodes(later, q) {
					selected[o.From] = true
				}
				for _, o := range nodes {
					f := hang.Of(v, q, o.places...)
					if f.Holds != -1 && !selected[o.v.From] || (f.Fails != -1 || !f.May) && selected[o.v.From] {
						t.Fatalf("%s, then %s: Of %v by %s = %v", text[:n], more, o.places, write.Text(q), f)
					}
				}
			}
		}
	}
}

// goOn has some texts that begin as a text does, and end at once, or behind some more items.
func goOn(s string) []string {
	ends, inside := "", false
	for _, c := range s {
		switch {
		case c == '"':
			inside = !inside
		case inside:
		case c == '[':
			ends = "]" + ends
		case c == '{':
			ends = "}" + ends
		case c == ']' || c == '}':
			ends = ends[1:]
		}
	}
	var l []string
	for _, next := range []string{"", "0", `"`, `":0`, ":0", `"x":0`} {
		for many := range 4 {
			more := s + next
			for _, c := range ends {
				more += strings.Repeat(map[rune]string{']': ",0", '}': `,"x":0`}[c], many) + string(c)
			}
			if _, x := tree.Parse([]byte(more), len(more)); x.Kind == api.Accept {
				l = append(l, more)
			}
		}
	}
	return l
}
