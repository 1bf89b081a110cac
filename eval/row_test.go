package eval_test

import (
	"slices"
	"strconv"
	"strings"
	"testing"

	"riffle/api"
	"riffle/eval"
	"riffle/path"
	"riffle/query"
)

// parsed is the query of a text.
func parsed(t *testing.T, text string) api.Query {
	t.Helper()
	q, ok := query.Parse(text)
	if !ok {
		t.Fatalf("%s is no query", text)
	}
	return q
}

// told has nodes as text: of each its path and its bytes, by its place.
func told(text string, l []eval.Node) string {
	var b strings.Builder
	for _, n := range l {
		b.WriteString(path.Put(n.Steps...) + " " + strconv.Itoa(n.From) + " " + text[n.From:n.To] + "\n")
	}
	return b.String()
}

// isRow holds Row of a text's value against the nodes that are wanted: of each its path, place and bytes.
func isRow(t *testing.T, text, q string, want ...string) {
	t.Helper()
	if got := told(text, eval.Row(value(t, text), parsed(t, q))); got != lines(want) {
		t.Errorf("Row of %s, by %s:\n%swant\n%s", text, q, got, lines(want))
	}
}

// isNodes holds Nodes likewise.
func isNodes(t *testing.T, text, q string, want ...string) {
	t.Helper()
	if got := told(text, eval.Nodes(value(t, text), parsed(t, q))); got != lines(want) {
		t.Errorf("Nodes of %s, by %s:\n%swant\n%s", text, q, got, lines(want))
	}
}

// isBoth holds Row and Nodes, where they are the same.
func isBoth(t *testing.T, text, q string, want ...string) {
	t.Helper()
	isRow(t, text, q, want...)
	isNodes(t, text, q, want...)
}

// lines is a text of lines.
func lines(l []string) string {
	if len(l) == 0 {
		return ""
	}
	return strings.Join(l, "\n") + "\n"
}

// The chapter's example.
func TestExample(t *testing.T) {
	isBoth(t, `{"a":[5,{"a":6}]}`, "$..a", `$['a'] 5 [5,{"a":6}]`, `$['a'][1]['a'] 13 6`)
}

// P16.2: of no segments the whole value alone.
func TestNoSegments(t *testing.T) {
	isBoth(t, "  [1, 2] ", "$", "$ 2 [1, 2]")
	isBoth(t, `{"a":{}}`, "$", `$ 0 {"a":{}}`)
	isBoth(t, "\n12", "$", "$ 1 12")
	isBoth(t, `"a"`, "$", `$ 0 "a"`)
	isBoth(t, "null", "$", "$ 0 null")
	isBoth(t, "[]", "$", "$ 0 []")
	for _, l := range [][]eval.Node{eval.Row(value(t, " true"), nil), eval.Nodes(value(t, " true"), api.Query{})} {
		if len(l) != 1 || len(l[0].Steps) != 0 || l[0].From != 1 || l[0].To != 5 {
			t.Error(l)
		}
	}
}

// P16.2: one segment, and several, that aren't Deep.
func TestSegments(t *testing.T) {
	const text = ` {"a": [ {"b":1} , [2, "x"] ], "b":{"a":null}}`
	isBoth(t, text, "$.a", `$['a'] 7 [ {"b":1} , [2, "x"] ]`)
	isBoth(t, text, "$.b.a", "$['b']['a'] 40 null")
	isBoth(t, text, "$.a[0].b", "$['a'][0]['b'] 14 1")
	isBoth(t, text, "$.a[1][-1]", `$['a'][1][1] 23 "x"`)
	isBoth(t, text, "$.*.*", `$['a'][0] 9 {"b":1}`, `$['a'][1] 19 [2, "x"]`, "$['b']['a'] 40 null")
	isBoth(t, text, "$[*][*][*]", "$['a'][0]['b'] 14 1", "$['a'][1][0] 20 2", `$['a'][1][1] 23 "x"`)
	isBoth(t, text, "$[*][*][*][*]")
	isBoth(t, text, "$.x")
	isBoth(t, text, "$.x.a")
	isBoth(t, text, "$.a.x.b")
	isBoth(t, text, "$.a[7].b")
	isBoth(t, text, "$.a.b")
	isBoth(t, text, "$[0]")
	isBoth(t, text, "$[:]")
	isBoth(t, text, "$.a['0']")
	isBoth(t, text, "$.a[1][0][0]")
	isBoth(t, text, "$.b.a.a")
	for _, scalar := range []string{`"ab"`, "12", "true", "false", "null", "[]", "{}"} {
		for _, q := range []string{"$.a", "$.*", "$[0]", "$[-1]", "$[:]", "$[::-1]", "$..a", "$..*", "$..[0]", "$..[:]", "$..*..*", "$..*.a", "$.*..*"} {
			isBoth(t, scalar, q)
		}
	}
}

// P16.2, P16.3: several selectors: in their order, and a node as often as it is selected.
func TestSelectors(t *testing.T) {
	const text = `[10,11,12,{"a":13,"b":14}]`
	last := []string{"$[0] 1 10", "$[1] 4 11", "$[2] 7 12"}
	isRow(t, text, "$[2,0,1]", last[2], last[0], last[1])
	isNodes(t, text, "$[2,0,1]", last...)
	isRow(t, text, "$[1,1,-3,0,1]", last[1], last[1], last[1], last[0], last[1])
	isNodes(t, text, "$[1,1,-3,0,1]", last[0], last[1])
	isRow(t, text, "$[2::-1]", last[2], last[1], last[0])
	isNodes(t, text, "$[2::-1]", last...)
	isRow(t, text, "$[:2,1:3]", last[0], last[1], last[1], last[2])
	isNodes(t, text, "$[:2,1:3]", last...)
	isRow(t, text, "$[3]['b','x',*,'a']", "$[3]['b'] 22 14", "$[3]['a'] 15 13", "$[3]['b'] 22 14", "$[3]['a'] 15 13")
	isNodes(t, text, "$[3]['b','x',*,'a']", "$[3]['a'] 15 13", "$[3]['b'] 22 14")
	isRow(t, text, "$[3,3]['b','a']", "$[3]['b'] 22 14", "$[3]['a'] 15 13", "$[3]['b'] 22 14", "$[3]['a'] 15 13")
	isRow(t, text, "$[3,3,0]", `$[3] 10 {"a":13,"b":14}`, `$[3] 10 {"a":13,"b":14}`, last[0])
	isRow(t, "[[1,2],[3,4]]", "$[1,0][1,0]", "$[1][1] 10 4", "$[1][0] 8 3", "$[0][1] 4 2", "$[0][0] 2 1")
	isNodes(t, "[[1,2],[3,4]]", "$[1,0][1,0]", "$[0][0] 2 1", "$[0][1] 4 2", "$[1][0] 8 3", "$[1][1] 10 4")
	isRow(t, "[[1,2],[3,4]]", "$[::-1][*]", "$[1][0] 8 3", "$[1][1] 10 4", "$[0][0] 2 1", "$[0][1] 4 2")
	isRow(t, "[1,[2,[3]]]", "$[*,1][0]", "$[1][0] 4 2", "$[1][0] 4 2")
	isNodes(t, "[1,[2,[3]]]", "$[*,1][0]", "$[1][0] 4 2")
}

// P16.2: Deep: what is selected of the node first, then item by item, likewise.
func TestDeep(t *testing.T) {
	const text = `[[1,[2]],{"a":[3]},4]`
	isRow(t, text, "$..*", "$[0] 1 [1,[2]]", `$[1] 9 {"a":[3]}`, "$[2] 19 4", "$[0][0] 2 1", "$[0][1] 4 [2]", "$[0][1][0] 5 2", "$[1]['a'] 14 [3]", "$[1]['a'][0] 15 3")
	isNodes(t, text, "$..*", "$[0] 1 [1,[2]]", "$[0][0] 2 1", "$[0][1] 4 [2]", "$[0][1][0] 5 2", `$[1] 9 {"a":[3]}`, "$[1]['a'] 14 [3]", "$[1]['a'][0] 15 3", "$[2] 19 4")
	isBoth(t, text, "$..a", "$[1]['a'] 14 [3]")
	isRow(t, text, "$..[0]", "$[0] 1 [1,[2]]", "$[0][0] 2 1", "$[0][1][0] 5 2", "$[1]['a'][0] 15 3")
	isRow(t, text, "$..[::-1]", "$[2] 19 4", `$[1] 9 {"a":[3]}`, "$[0] 1 [1,[2]]", "$[0][1] 4 [2]", "$[0][0] 2 1", "$[0][1][0] 5 2", "$[1]['a'][0] 15 3")
	isRow(t, text, "$..['a',0]", "$[0] 1 [1,[2]]", "$[0][0] 2 1", "$[0][1][0] 5 2", "$[1]['a'] 14 [3]", "$[1]['a'][0] 15 3")
	isRow(t, text, "$..[0,0]", "$[0] 1 [1,[2]]", "$[0] 1 [1,[2]]", "$[0][0] 2 1", "$[0][0] 2 1", "$[0][1][0] 5 2", "$[0][1][0] 5 2", "$[1]['a'][0] 15 3", "$[1]['a'][0] 15 3")
	isNodes(t, text, "$..[0,0]", "$[0] 1 [1,[2]]", "$[0][0] 2 1", "$[0][1][0] 5 2", "$[1]['a'][0] 15 3")
	isRow(t, text, "$[0]..*", "$[0][0] 2 1", "$[0][1] 4 [2]", "$[0][1][0] 5 2")
	isRow(t, text, "$[2]..*")
	isRow(t, text, "$..*[0]", "$[0][0] 2 1", "$[0][1][0] 5 2", "$[1]['a'][0] 15 3")
	isRow(t, text, "$..x")
	isRow(t, text, "$..x..*")
	isRow(t, text, "$..[9].a")
	isRow(t, `{"a":{"a":{"a":1}}}`, "$..a", `$['a'] 5 {"a":{"a":1}}`, `$['a']['a'] 10 {"a":1}`, "$['a']['a']['a'] 15 1")
}

// P16.2, P16.3: Deep behind Deep: a node is there as often as there are ways to it.
func TestDeepBehindDeep(t *testing.T) {
	const text = "[[[[7]]]]"
	isRow(t, text, "$..*..*", "$[0][0] 2 [[7]]", "$[0][0][0] 3 [7]", "$[0][0][0][0] 4 7", "$[0][0][0] 3 [7]", "$[0][0][0][0] 4 7", "$[0][0][0][0] 4 7")
	isNodes(t, text, "$..*..*", "$[0][0] 2 [[7]]", "$[0][0][0] 3 [7]", "$[0][0][0][0] 4 7")
	isRow(t, text, "$..*..*..[0]", "$[0][0][0] 3 [7]", "$[0][0][0][0] 4 7", "$[0][0][0][0] 4 7", "$[0][0][0][0] 4 7")
	isRow(t, `{"a":{"a":{"b":1}},"b":2}`, "$..a..b", "$['a']['a']['b'] 15 1", "$['a']['a']['b'] 15 1")
	isNodes(t, `{"a":{"a":{"b":1}},"b":2}`, "$..a..b", "$['a']['a']['b'] 15 1")
	isRow(t, "[[1],[2]]", "$..*..*", "$[0][0] 2 1", "$[1][0] 6 2")
	isRow(t, "[[[1]],2]", "$..*.*", "$[0][0] 2 [1]", "$[0][0][0] 3 1")
	isRow(t, "[[[1],2],3]", "$..[::-1]..[::-1]", "$[0][1] 6 2", "$[0][0] 2 [1]", "$[0][0][0] 3 1", "$[0][0][0] 3 1")
	isNodes(t, "[[[1],2],3]", "$..[::-1]..[::-1]", "$[0][0] 2 [1]", "$[0][0][0] 3 1", "$[0][1] 6 2")
}

// P16.2, P16.3: an object with the same name twice: two nodes of the same steps.
func TestTwice(t *testing.T) {
	const text = `{"a":1,"b":{"c":2},"a":3,"b":{"c":4,"c":5}}`
	isBoth(t, text, "$.a", "$['a'] 5 1", "$['a'] 23 3")
	isBoth(t, text, "$.b.c", "$['b']['c'] 16 2", "$['b']['c'] 34 4", "$['b']['c'] 40 5")
	isBoth(t, text, "$..c", "$['b']['c'] 16 2", "$['b']['c'] 34 4", "$['b']['c'] 40 5")
	isRow(t, text, "$['b','a','b']", `$['b'] 11 {"c":2}`, `$['b'] 29 {"c":4,"c":5}`, "$['a'] 5 1", "$['a'] 23 3", `$['b'] 11 {"c":2}`, `$['b'] 29 {"c":4,"c":5}`)
	isNodes(t, text, "$['b','a','b']", "$['a'] 5 1", `$['b'] 11 {"c":2}`, "$['a'] 23 3", `$['b'] 29 {"c":4,"c":5}`)
	isBoth(t, text, "$.*.*", "$['b']['c'] 16 2", "$['b']['c'] 34 4", "$['b']['c'] 40 5")
}

// P16.3: the Steps, names and indices, field by field.
func TestSteps(t *testing.T) {
	v := value(t, `{"":[0,{"1":[],"x":[[5]]}]}`)
	named := func(s string) api.Step { return api.Step{Named: true, Name: s} }
	at := func(i int) api.Step { return api.Step{Index: i} }
	q := parsed(t, "$..*")
	for _, c := range [][]eval.Node{eval.Row(v, q), eval.Nodes(v, q)} {
		for i, want := range [][]api.Step{
			{named("")}, {named(""), at(0)}, {named(""), at(1)}, {named(""), at(1), named("1")}, {named(""), at(1), named("x")},
			{named(""), at(1), named("x"), at(0)}, {named(""), at(1), named("x"), at(0), at(0)},
		} {
			if !slices.Equal(c[i].Steps, want) {
				t.Errorf("%d: %+v, want %+v", i, c[i].Steps, want)
			}
		}
	}
}

// P16.2, P16.3: of a part of a value, the places are those of the text, and the steps begin at the part.
func TestOfParts(t *testing.T) {
	const text = `[0, {"a" : [ 1, {"a":2} ]}]`
	v := value(t, text).Items[1]
	for q, want := range map[string]string{
		"$":    "$ 4 {\"a\" : [ 1, {\"a\":2} ]}\n",
		"$..a": "$['a'] 11 [ 1, {\"a\":2} ]\n$['a'][1]['a'] 21 2\n",
		"$[1]": "",
	} {
		if got := told(text, eval.Row(v, parsed(t, q))); got != want {
			t.Errorf("Row of a part by %s:\n%s", q, got)
		}
		if got := told(text, eval.Nodes(v, parsed(t, q))); got != want {
			t.Errorf("Nodes of a part by %s:\n%s", q, got)
		}
	}
}
