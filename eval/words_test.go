package eval_test

import (
	"fmt"
	"slices"
	"testing"

	"riffle/api"
	"riffle/eval"
	"riffle/path"
	"riffle/write"
)

// one is a node by the chapter's words: its value, its steps, and which item of which it is.
type one struct {
	v     api.Value
	steps []api.Step
	where []int
}

// childrenByWords is Children, by the chapter's words, and by those of the RFC on slices.
func childrenByWords(v api.Value, s api.Selector) []int {
	var l []int
	many := len(v.Items)
	switch {
	case s.Kind == api.ByName && v.Kind == api.Object:
		for i, n := range v.Names {
			if n == s.Name {
				l = append(l, i)
			}
		}
	case s.Kind == api.ByAny && (v.Kind == api.Object || v.Kind == api.Array):
		for i := range v.Items {
			l = append(l, i)
		}
	case s.Kind == api.ByIndex && v.Kind == api.Array:
		for i := range v.Items {
			if i == s.Index || i-many == s.Index {
				l = append(l, i)
			}
		}
	case s.Kind == api.BySlice && v.Kind == api.Array:
		return sliceByWords(s, many)
	}
	return l
}

// sliceByWords goes from the start on, number by number, far beyond each end, and takes those that are items.
func sliceByWords(s api.Selector, many int) []int {
	place := func(i int) int {
		if i < 0 {
			return i + many
		}
		return i
	}
	var l []int
	switch start, end := place(s.Start), place(s.End); {
	case s.Stride > 0:
		if !s.HasStart {
			start = 0
		}
		if !s.HasEnd || end > many {
			end = many
		}
		for i := max(start, 0); i < end; i += s.Stride {
			l = append(l, i)
		}
	case s.Stride < 0:
		if !s.HasStart || start > many-1 {
			start = many - 1
		}
		if !s.HasEnd || end < -1 {
			end = -1
		}
		for i := start; i > end; i += s.Stride {
			l = append(l, i)
		}
	}
	return l
}

// below is a node's item.
func below(o one, i int) one {
	s := api.Step{Index: i}
	if o.v.Kind == api.Object {
		s = api.Step{Named: true, Name: o.v.Names[i]}
	}
	return one{v: o.v.Items[i], steps: append(slices.Clone(o.steps), s), where: append(slices.Clone(o.where), i)}
}

// selectedByWords is what a segment selects of a node.
func selectedByWords(o one, g api.Segment) []one {
	var l []one
	for _, s := range g.Selectors {
		for _, i := range childrenByWords(o.v, s) {
			l = append(l, below(o, i))
		}
	}
	if g.Deep {
		for i := range o.v.Items {
			l = append(l, selectedByWords(below(o, i), g)...)
		}
	}
	return l
}

// rowByWords is Row: segment by segment, of each node of the row.
func rowByWords(v api.Value, q api.Query) []one {
	row := []one{{v: v}}
	for _, g := range q {
		var next []one
		for _, o := range row {
			next = append(next, selectedByWords(o, g)...)
		}
		row = next
	}
	return row
}

// nodesByWords is Nodes, of a row: each item of the whole value once, by rising From.
func nodesByWords(row []one) []one {
	seen := map[string]bool{}
	var l []one
	for _, o := range row {
		if k := fmt.Sprint(o.where); !seen[k] {
			seen[k] = true
			l = append(l, o)
		}
	}
	slices.SortStableFunc(l, func(a, b one) int { return a.v.From - b.v.From })
	return l
}

// same tells whether nodes are those that the chapter's words give.
func same(l []eval.Node, want []one) bool {
	return slices.EqualFunc(l, want, func(n eval.Node, o one) bool {
		return slices.Equal(n.Steps, o.steps) && n.From == o.v.From && n.To == o.v.To
	})
}

// ways has nodes as a text.
func ways(l []eval.Node) string {
	text := ""
	for _, n := range l {
		text += fmt.Sprintf("%s %d-%d\n", path.Put(n.Steps...), n.From, n.To)
	}
	return text
}

// byWords holds Row and Nodes of a value against the chapter's words.
func byWords(t *testing.T, v api.Value, q api.Query, what string) {
	t.Helper()
	row := rowByWords(v, q)
	if l := eval.Row(v, q); !same(l, row) {
		t.Fatalf("Row of %s by %s:\n%s", what, write.Text(q), ways(l))
	}
	if l := eval.Nodes(v, q); !same(l, nodesByWords(row)) {
		t.Fatalf("Nodes of %s by %s:\n%s", what, write.Text(q), ways(l))
	}
}

// texts has texts of all kinds of values, within each other.
func texts() []string {
	return []string{
		"1", `"ab"`, "null", "[]", "{}", " [ ] ", "[[]]", "[{}]", `{"a":[]}`, `{"a":{}}`, `{"a":1}`, `{"":1}`, "[0]",
		`{"a":[5,{"a":6}]}`,
		`{"a":1,"b":2,"a":3}`,
		`{"a":{"a":1},"a":{"a":2,"b":[3]},"b":{"a":[4,{"a":5}]}}`,
		"[[1,2,3],[4,5],[6],[]]",
		"[[[[[[]]]]]]",
		"[[[1],[2]],[[3],[4]],[[5],[6,[7,[8]]]]]",
		`[ {"a":[ 1, "x" ]} , {"b":{"a":[[]]}} , [ {"a":null} , [ true ] , false ] , 2 ]`,
		`{"b":[{"a":0},{"b":[{"a":1,"b":{"a":2}},3]}],"a":[[{"a":4}],{"a":{"b":5}}]}`,
		`{"":{"":[{"":{}}]},"a":""}`,
		"[0,1,2,3,4,5,6]",
	}
}

// few has selectors of each kind.
func few() []api.Selector {
	return []api.Selector{name("a"), any, index(0), index(-1), stride(-1), from(1, stride(1))}
}

// P16.1: Children of each value within the texts, by selectors with numbers of all kinds, by the chapter's words.
func TestChildrenByWords(t *testing.T) {
	var all func(v api.Value)
	all = func(v api.Value) {
		for _, s := range append(few(), name(""), name("b"), name("ab"), name("0")) {
			holdChildren(t, v, s)
		}
		for i := -9; i <= 9; i++ {
			holdChildren(t, v, index(i))
			for _, by := range []int{1, 2, 3, 7, greatest, 0, -1, -2, -3, -7, -greatest} {
				holdChildren(t, v, stride(by))
				holdChildren(t, v, from(i, stride(by)))
				holdChildren(t, v, to(i, stride(by)))
				for end := -9; end <= 9; end++ {
					holdChildren(t, v, from(i, to(end, stride(by))))
				}
			}
		}
		for _, i := range v.Items {
			all(i)
		}
	}
	for _, text := range texts() {
		all(value(t, text))
	}
}

// holdChildren holds Children against the chapter's words.
func holdChildren(t *testing.T, v api.Value, s api.Selector) {
	t.Helper()
	if got, want := eval.Children(v, s), childrenByWords(v, s); !slices.Equal(got, want) {
		t.Fatalf("Children(%+v, %+v) = %v, want %v", v, s, got, want)
	}
}

// P16.2, P16.3: by all queries of up to three segments of one selector, and of one or two segments of two or three.
func TestSmallQueries(t *testing.T) {
	var single, several []api.Segment
	for _, deep := range []bool{false, true} {
		for _, s := range few() {
			single = append(single, api.Segment{Deep: deep, Selectors: []api.Selector{s}})
			for _, o := range few() {
				several = append(several, api.Segment{Deep: deep, Selectors: []api.Selector{s, o}})
				several = append(several, api.Segment{Deep: deep, Selectors: []api.Selector{o, s, o}})
			}
		}
	}
	for _, text := range texts() {
		v := value(t, text)
		byWords(t, v, nil, text)
		for _, a := range single {
			byWords(t, v, api.Query{a}, text)
			for _, b := range single {
				byWords(t, v, api.Query{a, b}, text)
				for _, c := range single {
					byWords(t, v, api.Query{a, b, c}, text)
				}
			}
		}
		for _, a := range several {
			byWords(t, v, api.Query{a}, text)
			for _, b := range single {
				byWords(t, v, api.Query{a, b}, text)
				byWords(t, v, api.Query{b, a}, text)
			}
		}
	}
}

// P16.2, P16.3: by longer queries, most of them Deep.
func TestLongerQueries(t *testing.T) {
	for _, text := range texts() {
		v := value(t, text)
		for _, q := range []string{
			"$..*..*..*..*", "$..*.*..*.*", "$..a..a..a..a", "$..a..*..a", "$..[0]..[0]..[0]..[0]", "$.*..*.*..*..*", "$..*..*..*..*..x", "$..x..*..*..*",
			"$..[0,0]..[0,0]..[0,0]", "$[*,*][*,*][*,*]", "$..['a','b'][*,0,-1]..['b','a']", "$..[::-1]..[::-1]..[::-1]", "$..[1:]..[:1]..*", "$..*[-1]..*[0]", "$.*.*.*.*.*", "$[0][0][0][0][0]", "$..[*,*]..x..*", "$.b..a..b..a",
		} {
			byWords(t, v, parsed(t, q), text+" by "+q)
		}
	}
}

// P16.2, P16.3: a query whose segments have no selectors selects nothing, but ends; so do selectors that aren't right.
func TestWrongQueries(t *testing.T) {
	none := []api.Segment{{}, {Deep: true}, {Deep: true, Selectors: []api.Selector{{Kind: 4}}}, {Selectors: []api.Selector{{Kind: -1, Name: "a"}, stride(0)}}, {Deep: true, Selectors: []api.Selector{index(-1 << 63), from(1<<63-1, stride(1<<63-1))}}}
	for _, text := range texts() {
		v := value(t, text)
		for _, g := range none {
			for _, q := range []api.Query{{g}, {g, {Deep: true, Selectors: few()}}, {{Deep: true, Selectors: few()}, g}, {g, g, g}} {
				if a, b := eval.Row(v, q), eval.Nodes(v, q); len(a) != 0 || len(b) != 0 {
					t.Fatalf("%s by %+v: %v, %v", text, q, a, b)
				}
			}
		}
	}
}

// P1: values that no text has end, and don't panic.
func TestWrongValues(t *testing.T) {
	scalar := api.Value{Kind: api.String, Text: "a", Items: make([]api.Value, 2), Names: []string{"a", "a"}}
	unnamed := api.Value{Kind: api.Object, Items: []api.Value{scalar, {Kind: api.Array, Items: make([]api.Value, 2), Names: []string{"a"}}}, Names: []string{"a"}}
	for _, v := range []api.Value{{}, {Kind: -1}, {Kind: 7, Items: make([]api.Value, 3)}, {From: 3, To: -1}, scalar, unnamed,
		{Kind: api.Object, Names: []string{"a", "b"}},
		{Kind: api.Object, Items: []api.Value{unnamed, unnamed, unnamed}},
		{Kind: api.Array, Items: []api.Value{unnamed, {Kind: -1 << 63, From: -5, Items: []api.Value{unnamed}}, scalar}}} {
		for _, q := range []string{"$", "$.a", "$.*", "$..*", "$..a", "$[0]", "$[::-1]", "$..*..*", "$..[-1]..a"} {
			eval.Row(v, parsed(t, q))
			eval.Nodes(v, parsed(t, q))
		}
	}
}
