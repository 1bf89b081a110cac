package hang_test

import (
	"fmt"
	"math"
	"slices"
	"strings"
	"testing"

	"riffle/api"
	"riffle/hang"
	"riffle/path"
)

// told has hits as lines: of each its query, its path, From, To and Ready.
func told(l []hang.Hit) string {
	var s []string
	for _, h := range l {
		s = append(s, fmt.Sprintf("%d %s %d-%d %d", h.Query, path.Put(h.Steps...), h.From, h.To, h.Ready))
	}
	return strings.Join(s, "\n")
}

// isHits holds the Hits of the value so far of a text's beginning by some queries, with blanks between them.
func isHits(t *testing.T, text, queries string, want ...string) {
	t.Helper()
	got := told(hang.Hits(part(t, text), all(t, strings.Fields(queries)...)...))
	if got != strings.Join(want, "\n") {
		t.Errorf("Hits of %s by %s:\n%s\nwant\n%s", text, queries, got, strings.Join(want, "\n"))
	}
}

// The chapter's example.
func TestExample(t *testing.T) {
	isHits(t, "[1,[2]]", "$[-1][0]", "0 $[1][0] 4-5 7")
}

// P17.2: of no queries there are no Hits; nor where nothing has ended, or nothing is selected.
func TestNoHits(t *testing.T) {
	for _, text := range []string{"1", "1 ", "[1,2]", `{"a":1}`, "["} {
		if l := hang.Hits(part(t, text)); len(l) != 0 {
			t.Error(text, l)
		}
		if l := hang.Hits(part(t, text), []api.Query{}...); len(l) != 0 {
			t.Error(text, l)
		}
		isHits(t, text, "$[7] $.x $..x $.a.a $[0][0]")
	}
	if l := hang.Hits(api.Value{}, nil, parsed(t, "$..*")); len(l) != 0 {
		t.Error(l)
	}
	isHits(t, "1", "$")
	isHits(t, "[", "$ $..*")
	isHits(t, "[1", "$ $..* $[0] $[-1]")
	isHits(t, "[[", "$ $..* $[0] $[-1]")
	isHits(t, `{"a":"b`, "$ $..* $.a")
}

// P17.2: the whole value, if it has ended.
func TestWholeHit(t *testing.T) {
	isHits(t, "  [1]", "$", "0 $ 2-5 5")
	isHits(t, "1 ", "$", "0 $ 0-1 1")
	isHits(t, ` "a"`, "$ $", "0 $ 1-4 4", "1 $ 1-4 4")
	isHits(t, "null", "$", "0 $ 0-4 4")
	isHits(t, "{} ", "$", "0 $ 0-2 2")
	isHits(t, "[1", "$")
	isHits(t, "[1,", "$ $[*]", "1 $[0] 1-2 2")
}

// P17.2: of one query, several, and the same one twice.
func TestQueries(t *testing.T) {
	const text = `[10,{"a":11,"b":[12]}]`
	isHits(t, text, "$[0]", "0 $[0] 1-3 3")
	isHits(t, text, "$[1].a", "0 $[1]['a'] 9-11 11")
	isHits(t, text, "$[1].a $[0]", "1 $[0] 1-3 3", "0 $[1]['a'] 9-11 11")
	isHits(t, text, "$[0] $[0]", "0 $[0] 1-3 3", "1 $[0] 1-3 3")
	isHits(t, text, "$[-1] $[0] $[-1] $[1]", "1 $[0] 1-3 3", "3 $[1] 4-21 21", "0 $[1] 4-21 22", "2 $[1] 4-21 22")
	isHits(t, text, "$.x $[-2] $.y $..b $", "3 $[1]['b'] 16-20 20", "4 $ 0-22 22", "1 $[0] 1-3 22")
}

// P17.2: a node that hasn't ended isn't there; nor one of which it isn't known as yet, or known not to be.
func TestNotAsYet(t *testing.T) {
	isHits(t, "[10,[11,12],[13,1", "$[*]", "0 $[0] 1-3 3", "0 $[1] 4-11 11")
	isHits(t, "[10,[11,12],[13,1", "$[-1]")
	isHits(t, "[10,[11,12],[13,1", "$[*][*]", "0 $[1][0] 5-7 7", "0 $[1][1] 8-10 10", "0 $[2][0] 13-15 15")
	isHits(t, "[10,[11,12],[13,14 ", "$[*][*]", "0 $[1][0] 5-7 7", "0 $[1][1] 8-10 10", "0 $[2][0] 13-15 15", "0 $[2][1] 16-18 18")
	isHits(t, "[10,[11,12],[13,14", "$[*][-1]", "0 $[1][1] 8-10 11")
	isHits(t, "[10,[11,12],[13,14]", "$[*][-1]", "0 $[1][1] 8-10 11", "0 $[2][1] 16-18 19")
	isHits(t, "[10,[11,12],[13,14]", "$[-1][-1] $[-1][1] $[-1] $[1][0]", "3 $[1][0] 5-7 7")
	isHits(t, "[10,[11,12],[13,14]]", "$[-1][-1] $[-1][1] $[-1] $[1][0]", "3 $[1][0] 5-7 7", "2 $[2] 12-19 20", "0 $[2][1] 16-18 20", "1 $[2][1] 16-18 20")
	isHits(t, "[10,[11,12],[13,14]]", "$[-9:-2] $[1][-9]", "0 $[0] 1-3 20")
	isHits(t, `{"a":1,"b":"`, "$.*", "0 $['a'] 5-6 6")
	isHits(t, `{"a":1,"b"`, "$.*", "0 $['a'] 5-6 6")
}

// P17.2: each node is there once for a query, however many ways lead to it.
func TestOnce(t *testing.T) {
	isHits(t, "[1,2]", "$[0,0,*,-2,:]", "0 $[0] 1-2 2", "0 $[1] 3-4 4")
	isHits(t, "[1,2]", "$[-2,-2,-2:]", "0 $[0] 1-2 5", "0 $[1] 3-4 5")
	isHits(t, "[[[1]]]", "$..*..*", "0 $[0][0][0] 3-4 4", "0 $[0][0] 2-5 5")
	isHits(t, "[[[1]]]", "$..[-1]..[-1]", "0 $[0][0][0] 3-4 6", "0 $[0][0] 2-5 7")
	isHits(t, "[[[1]]]", "$..[0,-1]..[0,-1]", "0 $[0][0][0] 3-4 4", "0 $[0][0] 2-5 5")
	isHits(t, `{"a":{"a":1}}`, "$..['a','a',*]", "0 $['a']['a'] 10-11 11", "0 $['a'] 5-12 12")
}

// P17.2: two items of one name are two nodes of one path.
func TestNameTwice(t *testing.T) {
	isHits(t, `{"a":1,"b":2,"a":[3]}`, "$.a", "0 $['a'] 5-6 6", "0 $['a'] 17-20 20")
	isHits(t, `{"a":1,"b":2,"a":[3]}`, "$..[-1] $.a[0]", "1 $['a'][0] 18-19 19", "0 $['a'][0] 18-19 20")
	isHits(t, `{"a":1,"b":2,"a":[3`, "$.a", "0 $['a'] 5-6 6")
}

// P17.2: Ready is To where nothing hangs, or what hangs has ended earlier or can't be later, and else what Holds says.
func TestReady(t *testing.T) {
	const text = "[[1,22],[333,[4]]]" // 0 to 18, 1 to 7, 8 to 17, 13 to 16
	isHits(t, text, "$[1][1][0]", "0 $[1][1][0] 14-15 15")
	isHits(t, text, "$[1][1][-1]", "0 $[1][1][0] 14-15 16")
	isHits(t, text, "$[1][-1][0]", "0 $[1][1][0] 14-15 17")
	isHits(t, text, "$[-1][1][0]", "0 $[1][1][0] 14-15 18")
	isHits(t, text, "$[-1][-1][-1]", "0 $[1][1][0] 14-15 18")
	isHits(t, text, "$[-2,0][1]", "0 $[0][1] 4-6 6")
	isHits(t, text, "$[-2,0][-1]", "0 $[0][1] 4-6 7")
	isHits(t, text, "$[-2,1][-1]", "0 $[1][1] 13-16 17", "0 $[0][1] 4-6 18")
	isHits(t, text, "$[-1,-2] $[0,1]", "1 $[0] 1-7 7", "1 $[1] 8-17 17", "0 $[0] 1-7 18", "0 $[1] 8-17 18")
}

// P17.2: by rising Ready, of like ones by rising From, of like ones by rising numbers of queries.
func TestOrder(t *testing.T) {
	const text = "[[1,2],[3,4]]"
	isHits(t, text, "$..[-1] $..[::-1]",
		"1 $[0][0] 2-3 6", "0 $[0][1] 4-5 6", "1 $[0][1] 4-5 6", "1 $[1][0] 8-9 12", "0 $[1][1] 10-11 12", "1 $[1][1] 10-11 12",
		"1 $[0] 1-6 13", "0 $[1] 7-12 13", "1 $[1] 7-12 13")
	isHits(t, text, "$ $[-1] $[*] $[-2][*] $[-1][0] $..[*]",
		"5 $[0][0] 2-3 3", "5 $[0][1] 4-5 5", "2 $[0] 1-6 6", "5 $[0] 1-6 6", "5 $[1][0] 8-9 9", "5 $[1][1] 10-11 11", "2 $[1] 7-12 12", "5 $[1] 7-12 12",
		"0 $ 0-13 13", "3 $[0][0] 2-3 13", "3 $[0][1] 4-5 13", "1 $[1] 7-12 13", "4 $[1][0] 8-9 13")
	isHits(t, text, "$[-1][0] $[-2][*] $[*] $[-1] $",
		"2 $[0] 1-6 6", "2 $[1] 7-12 12", "4 $ 0-13 13", "1 $[0][0] 2-3 13", "1 $[0][1] 4-5 13", "3 $[1] 7-12 13", "0 $[1][0] 8-9 13")
	isHits(t, "[[1,2],3]", "$..* $..*",
		"0 $[0][0] 2-3 3", "1 $[0][0] 2-3 3", "0 $[0][1] 4-5 5", "1 $[0][1] 4-5 5", "0 $[0] 1-6 6", "1 $[0] 1-6 6", "0 $[1] 7-8 8", "1 $[1] 7-8 8")
	many := make([]api.Query, 300)
	for i := range many {
		many[i] = parsed(t, []string{"$[0]", "$[-2]", "$[-1]", "$"}[i%4])
	}
	l := hang.Hits(part(t, "[1,2]"), many...)
	if len(l) != len(many) {
		t.Fatal(len(l))
	}
	for i := range l[1:] {
		if !later(l[i+1], l[i]) {
			t.Error(told(l[i : i+2]))
		}
	}
}

// P17.2: the Steps of names and of indices.
func TestSteps(t *testing.T) {
	v := part(t, `{"a":[5,{"":[[6]],"0":7}],"b":null}`)
	for q, want := range map[string][]api.Step{
		"$":               nil,
		"$.b":             {{Named: true, Name: "b"}},
		"$.a[0]":          {{Named: true, Name: "a"}, {}},
		"$.a[-1]['0']":    {{Named: true, Name: "a"}, {Index: 1}, {Named: true, Name: "0"}},
		"$..['']":         {{Named: true, Name: "a"}, {Index: 1}, {Named: true}},
		"$..[''][-1][-1]": {{Named: true, Name: "a"}, {Index: 1}, {Named: true}, {}, {}},
	} {
		l := hang.Hits(v, parsed(t, q))
		if len(l) != 1 || !slices.Equal(l[0].Steps, want) {
			t.Errorf("%s: %+v", q, l)
		}
	}
}

// P17.4: of no Hits none; of each, in order, its query, its path, its bytes.
func TestMatches(t *testing.T) {
	b := []byte(` {"a" : [ 5, {"it's":"\u0041"} ] , "a":null} `)
	if l := hang.Matches(b, nil); len(l) != 0 {
		t.Error(l)
	}
	if l := hang.Matches(nil, []hang.Hit{}); len(l) != 0 {
		t.Error(l)
	}
	hits := hang.Hits(whole(t, string(b)), all(t, "$.a", "$.a[-1].*", "$.x", "$..[0]")...)
	want := []api.Match{
		{Query: 3, Path: "$['a'][0]", Bytes: "5"},
		{Query: 0, Path: "$['a']", Bytes: `[ 5, {"it's":"\u0041"} ]`},
		{Query: 1, Path: `$['a'][1]['it\'s']`, Bytes: `"\u0041"`},
		{Query: 0, Path: "$['a']", Bytes: "null"},
	}
	if l := hang.Matches(b, hits); !slices.Equal(l, want) {
		t.Error(l)
	}
	slices.Reverse(hits)
	slices.Reverse(want)
	if l := hang.Matches(b, hits); !slices.Equal(l, want) {
		t.Error(l)
	}
	if l := hang.Matches(b, hits[1:2]); !slices.Equal(l, want[1:2]) {
		t.Error(l)
	}
	if l := hang.Matches(b, []hang.Hit{hits[0], hits[2], hits[0]}); !slices.Equal(l, []api.Match{want[0], want[2], want[0]}) {
		t.Error(l)
	}
	if l := hang.Matches(b, hang.Hits(whole(t, string(b)), nil, nil)); !slices.Equal(l, []api.Match{{Path: "$", Bytes: string(b[1 : len(b)-1])}, {Query: 1, Path: "$", Bytes: string(b[1 : len(b)-1])}}) {
		t.Error(l)
	}
}

// P17.4: of Hits that no call answered: the query's number as it is, layer 13's Put and layer 11's Bytes of them.
func TestMatchesOfOthers(t *testing.T) {
	b := []byte("abc")
	for _, c := range []struct {
		from, to int
		want     string
	}{
		{0, 3, "abc"}, {1, 2, "b"}, {0, 0, ""}, {3, 3, ""}, {2, 3, "c"}, {2, 1, ""}, {-1, 2, ""}, {0, 4, ""}, {0, -1, ""}, {4, 4, ""},
		{math.MinInt, math.MaxInt, ""}, {math.MaxInt, math.MinInt, ""}, {math.MaxInt, math.MaxInt, ""}, {0, math.MaxInt, ""},
	} {
		for _, number := range []int{0, 7, -1, math.MaxInt, math.MinInt} {
			h := hang.Hit{Query: number, From: c.from, To: c.to, Ready: number}
			if l := hang.Matches(b, []hang.Hit{h}); !slices.Equal(l, []api.Match{{Query: number, Path: "$", Bytes: c.want}}) {
				t.Error(h, l)
			}
			if l := hang.Matches(nil, []hang.Hit{h}); !slices.Equal(l, []api.Match{{Query: number, Path: "$"}}) {
				t.Error(h, l)
			}
		}
	}
	for _, steps := range [][]api.Step{{{Index: -1}}, {{Index: api.MaxInt + 1}}, {{}, {Name: "a"}}, {{Named: true, Index: 1}}, {{Named: true, Name: "\xff"}, {}}} {
		if l := hang.Matches(b, []hang.Hit{{Steps: steps, To: 1}, {Steps: []api.Step{{}}, To: 2}}); !slices.Equal(l, []api.Match{{Bytes: "a"}, {Path: "$[0]", Bytes: "ab"}}) {
			t.Error(steps, l)
		}
	}
}
