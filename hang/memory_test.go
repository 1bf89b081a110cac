package hang_test

import (
	"reflect"
	"slices"
	"strings"
	"testing"

	"riffle/api"
	"riffle/hang"
	"riffle/write"
)

// mixed is a text's beginning in which what hangs holds, fails, and is open; asked are queries of it.
const mixed = `[{"a":[1,2,{"b":[3]}],"a":4},[5,[6,[7]]],[8,`

func asked() []string {
	return []string{"$", "$..*..*", "$..[::-1,0]", "$..a", "$..['a','b']..[0,-1]", "$[0].a[2].b", "$[*,*]..*", "$[-3]..[-1]", "$..[-2:]", "$[1][-1][-1][0]"}
}

// spare is a list with spare room, and something there.
func spare[T any](l []T, more ...T) []T {
	full := make([]T, 0, len(l)+len(more))
	return append(append(full, l...), more...)[:len(l)]
}

// spareValue, spareQuery and spareHits have spare room behind all of their lists.
func spareValue(v api.Value) api.Value {
	v.Items = spare(v.Items, api.Value{Kind: api.Array, From: 7}, api.Value{To: 3})
	v.Names = spare(v.Names, "a", "")
	for i := range v.Items {
		v.Items[i] = spareValue(v.Items[i])
	}
	return v
}

func spareQuery(q api.Query) api.Query {
	q = spare(q, api.Segment{Deep: true, Selectors: []api.Selector{{Kind: api.ByAny}}})
	for i := range q {
		q[i].Selectors = spare(q[i].Selectors, api.Selector{Kind: api.ByAny}, api.Selector{Kind: api.ByIndex, Index: -1})
	}
	return q
}

func spareHits(l []hang.Hit) []hang.Hit {
	l = spare(l, hang.Hit{Query: 9}, hang.Hit{})
	for i := range l {
		l[i].Steps = spare(l[i].Steps, api.Step{Index: 9}, api.Step{Named: true})
	}
	return l
}

// fullValue, fullQuery and fullHits have the spare room of all lists as elements.
func fullValue(v api.Value) api.Value {
	v.Items, v.Names = slices.Clone(v.Items[:cap(v.Items)]), v.Names[:cap(v.Names)]
	for i := range v.Items {
		v.Items[i] = fullValue(v.Items[i])
	}
	return v
}

func fullQuery(q api.Query) api.Query {
	q = slices.Clone(q[:cap(q)])
	for i := range q {
		q[i].Selectors = q[i].Selectors[:cap(q[i].Selectors)]
	}
	return q
}

func fullHits(l []hang.Hit) []hang.Hit {
	l = slices.Clone(l[:cap(l)])
	for i := range l {
		l[i].Steps = l[i].Steps[:cap(l[i].Steps)]
	}
	return l
}

// P2, and the rules: what is handed in isn't changed, spare room included.
func TestArguments(t *testing.T) {
	for _, text := range []string{mixed, mixed + "9]]", "[1,[2]]", `{"a":1,"b":{"a":2}}`, "1 "} {
		v, kept := spareValue(part(t, text)), spareValue(part(t, text))
		for _, s := range asked() {
			q := spareQuery(parsed(t, s))
			queries := spare([]api.Query{q, nil, q}, q, nil)
			for _, o := range allNodes(node{v: v}) {
				places := spare(o.places, -9, 0)
				hang.Of(v, q, places...)
				hang.Of(v, q, append(places, 9)...)
				if !slices.Equal(places, o.places) || !slices.Equal(places[len(places):cap(places)], []int{9, 0}) {
					t.Fatal(text, s, places[:cap(places)])
				}
			}
			hang.Hits(v, queries...)
			if !reflect.DeepEqual(fullValue(v), fullValue(kept)) || !reflect.DeepEqual(fullQuery(q), fullQuery(spareQuery(parsed(t, s)))) {
				t.Fatalf("%s, or %s, was changed", text, s)
			}
			full := queries[:cap(queries)]
			if len(full[1]) != 0 || len(full[4]) != 0 || !write.Same(full[0], q) || !write.Same(full[2], q) || !write.Same(full[3], q) {
				t.Fatalf("%s: the queries were changed", s)
			}
		}
	}
}

// P17.4, and the rules: the bytes and the Hits aren't changed, and may be written over behind the call.
func TestMatchesArguments(t *testing.T) {
	for _, s := range asked() {
		l := hang.Hits(part(t, mixed), parsed(t, s), parsed(t, "$..*"))
		hits, kept, b := spareHits(l), spareHits(l), spare([]byte(mixed), ']', ']')
		matches := hang.Matches(b, hits)
		if !reflect.DeepEqual(fullHits(hits), fullHits(kept)) || string(b[:cap(b)]) != mixed+"]]" {
			t.Fatalf("%s: the Hits, or the bytes, were changed", s)
		}
		again := hang.Matches(b, hits)
		spoil(hits)
		clear(b[:cap(b)])
		if !slices.Equal(matches, again) || !slices.Equal(matches, hang.Matches([]byte(mixed), l)) {
			t.Fatalf("%s: Matches hang on what was handed in", s)
		}
		other := hang.Matches([]byte(mixed), l)
		clear(again[:cap(again)])
		if !slices.Equal(matches, other) {
			t.Fatalf("%s: Matches share memory", s)
		}
	}
}

// spoil writes over the steps of hits, over the hits, and over the spare room of both.
func spoil(l []hang.Hit) {
	for _, h := range l {
		s := h.Steps[:cap(h.Steps)]
		for i := range s {
			s[i] = api.Step{Named: true, Name: "spoilt", Index: -1}
		}
	}
	l = l[:cap(l)]
	for i := range l {
		l[i] = hang.Hit{From: -1, To: -1}
	}
}

// P17.2: Hits and their Steps are new memory: what is changed in one isn't in another, nor in a later answer.
func TestNewMemory(t *testing.T) {
	for _, v := range []api.Value{part(t, mixed), part(t, mixed+"9]]")} {
		for _, s := range asked() {
			queries := all(t, s, "$..*", s, "$")
			want := hitsByWords(v, queries...)
			l := hang.Hits(v, queries...)
			for i := range l {
				spoil(slices.Clone(l[i : i+1]))
				if !same(l[i+1:], want[i+1:]) {
					t.Fatalf("%s: hit %d has memory of a later one", s, i)
				}
			}
			l = hang.Hits(v, queries...)
			slices.Reverse(l)
			for i := range l {
				spoil(slices.Clone(l[i : i+1]))
			}
			for i := range l {
				if slices.ContainsFunc(l[i].Steps[:cap(l[i].Steps)], func(s api.Step) bool { return s.Name != "spoilt" }) {
					t.Fatalf("%s: hit %d", s, i)
				}
			}
			l, other := hang.Hits(v, queries...), hang.Hits(v, queries...)
			for i := range l {
				_ = append(l[i].Steps, api.Step{Name: "more"})
				for _, j := range l[i+1:] {
					if slices.ContainsFunc(j.Steps[:cap(j.Steps)], func(s api.Step) bool { return s.Name == "more" }) {
						t.Fatalf("%s: hit %d has spare room of a later one", s, i)
					}
				}
			}
			spoil(l)
			if !same(other, want) || !same(hang.Hits(v, queries...), want) {
				t.Fatalf("%s: answers share memory", s)
			}
		}
	}
}

// The rules: the value and the queries may be written over behind the call.
func TestWrittenOver(t *testing.T) {
	for _, s := range asked() {
		v, queries := part(t, mixed), all(t, s, "$..*")
		want := hitsByWords(part(t, mixed), queries...)
		l := hang.Hits(v, queries...)
		for _, o := range allNodes(node{v: v}) {
			clear(o.v.Items)
			clear(o.v.Names)
		}
		for _, q := range queries {
			for _, g := range q {
				clear(g.Selectors)
			}
			clear(q)
		}
		clear(queries)
		if !same(l, want) {
			t.Fatalf("%s: Hits hang on what was handed in", s)
		}
	}
}

// P2: calls stand alone: the same again, whatever was asked between.
func TestStandAlone(t *testing.T) {
	v, queries := part(t, mixed), all(t, "$..[-2:]", "$..*..*")
	want := hitsByWords(v, queries...)
	fate := hang.Of(v, queries[0], 1, 1, 1)
	for _, text := range texts() {
		for _, s := range asked() {
			hang.Matches([]byte(text), hang.Hits(whole(t, text), parsed(t, s), nil))
			hang.Of(whole(t, text), parsed(t, s), 0, 1)
			if !same(hang.Hits(v, queries...), want) || hang.Of(v, queries[0], 1, 1, 1) != fate {
				t.Fatalf("behind %s by %s", text, s)
			}
		}
	}
}

// P17.1, P17.2: of a deep value there may be more ways to a node than could ever be gone.
func TestManyWays(t *testing.T) {
	const deep, segments = 120, 60
	text := strings.Repeat("[", deep) + `{"a":1}` + strings.Repeat("]", deep)
	v := whole(t, text)
	to := make([]int, deep+1)
	for _, s := range []string{"..*", "..[0,0]", "..[-1]", "..[-1,0,*]"} {
		q := parsed(t, "$"+strings.Repeat(s, segments)+"..a")
		from := 0
		if s == "..[-1]" {
			from = segments + len(`{"a":1}`) + deep // the innermost arrays hang, as many as are needed
		}
		if f := hang.Of(v, q, to...); f != holds(from) {
			t.Fatal(s, f)
		}
		l := hang.Hits(v, q)
		if len(l) != 1 || l[0].From != deep+5 || l[0].To != deep+6 || l[0].Ready != max(from, l[0].To) || len(l[0].Steps) != deep+1 {
			t.Fatal(s, len(l))
		}
	}
	q := parsed(t, "$"+strings.Repeat("..[-2]", segments)+"..a")
	if f := hang.Of(v, q, to...); f != fails(2*deep+len(`{"a":1}`)-segments+1) {
		t.Fatal(f)
	}
	if l := hang.Hits(v, q); len(l) != 0 {
		t.Fatal(len(l))
	}
}

// P17.1, P17.2: of a long text.
func TestLong(t *testing.T) {
	const many = 300_000
	v := part(t, "["+strings.Repeat("0,", many)+"[1,2]")
	if l := hang.Hits(v, all(t, "$[*]", "$[-1]", "$[::2]", "$[-1,299999]", "$..[-1]")...); len(l) != many+1+many/2+1+1+1 {
		t.Fatal(len(l))
	}
	v = whole(t, "["+strings.Repeat("0,", many)+"[1,2]]")
	l := hang.Hits(v, all(t, "$[-2:]", "$[-300000]", "$[::-1]")...)
	if len(l) != 2+1+many+1 || l[0].Query != 2 || l[0].From != 1 || l[1].Query != 1 || l[1].From != 3 || l[len(l)-1].Query != 2 || l[len(l)-1].Steps[0].Index != many {
		t.Fatal(len(l), l[:2])
	}
	if f := hang.Of(v, parsed(t, "$[-2]"), many-1); f != holds(2*many+7) {
		t.Fatal(f)
	}
}

// P17.1, P17.2: no value is too deep, and no query too long.
func TestTooDeepForNone(t *testing.T) {
	const deep = 200_000
	text := strings.Repeat(`{"a":[`, deep/2) + `{"x":[7]}` + strings.Repeat("]}", deep/2)
	v := whole(t, text)
	places := make([]int, deep+1)
	for q, ready := range map[string]int{"$..x": 0, "$..a..x": 0, "$..[-1].x": deep*3 + 10, "$..a[-1]..x": deep*3 + 10, "$.a[-1]..x": len(text) - 1} {
		l := hang.Hits(v, parsed(t, q))
		if len(l) != 1 || len(l[0].Steps) != deep+1 || text[l[0].From:l[0].To] != "[7]" || l[0].Ready != max(ready, l[0].To) {
			t.Fatalf("%s: %d hits, %d", q, len(l), l[0].Ready)
		}
		if f := hang.Of(v, parsed(t, q), places...); f != holds(ready) {
			t.Fatal(q, f)
		}
	}
	long := parsed(t, "$"+strings.Repeat(".a[0]", deep/2))
	l := hang.Hits(v, long)
	if len(l) != 1 || text[l[0].From:l[0].To] != `{"x":[7]}` || len(l[0].Steps) != deep {
		t.Fatalf("%d hits", len(l))
	}
	if f := hang.Of(v, long, places[:deep]...); f != holds(0) {
		t.Fatal(f)
	}
	if l := hang.Hits(v, parsed(t, "$..y..*"), parsed(t, "$..y")); len(l) != 0 {
		t.Fatal(len(l))
	}
	open := part(t, text[:deep/2*6])
	if l := hang.Hits(open, parsed(t, "$..*"), parsed(t, "$..[-1]")); len(l) != 0 {
		t.Fatal(len(l))
	}
	if f := hang.Of(open, parsed(t, "$..[-1]"), places[:deep-2]...); f != opened() {
		t.Fatal(f)
	}
}
