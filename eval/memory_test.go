package eval_test

import (
	"slices"
	"strings"
	"testing"

	"riffle/api"
	"riffle/eval"
	"riffle/tree"
	"riffle/write"
)

// spoil writes over the steps of nodes, over the nodes, and over the spare room of both.
func spoil(l []eval.Node) {
	for _, n := range l {
		s := n.Steps[:cap(n.Steps)]
		for i := range s {
			s[i] = api.Step{Named: true, Name: "spoilt", Index: -1}
		}
	}
	l = l[:cap(l)]
	for i := range l {
		l[i] = eval.Node{From: -1, To: -1}
	}
}

// spare is a value with spare room behind its lists, and values and names there.
func spare(v api.Value) api.Value {
	items := make([]api.Value, 0, len(v.Items)+3)
	for _, i := range v.Items {
		items = append(items, spare(i))
	}
	v.Names = append(slices.Clone(v.Names), "a", "", "a")[:len(v.Names)]
	v.Items = append(items, api.Value{Kind: api.Array, From: 7}, api.Value{Kind: api.Object}, api.Value{})[:len(items)]
	return v
}

// sameSpare tells whether two values, and what stands in the spare room of their lists, are one, places too.
func sameSpare(a, b api.Value) bool {
	if a.Kind != b.Kind || a.From != b.From || a.To != b.To || a.Text != b.Text || len(a.Items) != len(b.Items) || len(a.Names) != len(b.Names) {
		return false
	}
	n := len(a.Names) + 3
	return slices.Equal(a.Names[:n], b.Names[:n]) && slices.EqualFunc(a.Items, b.Items, sameSpare) &&
		slices.EqualFunc(a.Items[len(a.Items):len(a.Items)+3], b.Items[len(b.Items):len(b.Items)+3], func(x, y api.Value) bool { return tree.Same(x, y) && x.From == y.From && x.To == y.To })
}

// sparing is a query with spare room behind its lists, and selectors and a segment there.
func sparing(q api.Query) api.Query {
	c := make(api.Query, 0, len(q)+1)
	for _, g := range q {
		g.Selectors = append(slices.Clone(g.Selectors), name("a"), any)[:len(g.Selectors)]
		c = append(c, g)
	}
	return append(c, api.Segment{Deep: true, Selectors: few()})[:len(q)]
}

// sameSparing tells whether two queries of sparing are one, spare room too.
func sameSparing(a, b api.Query) bool {
	full := func(q api.Query) api.Query {
		c := slices.Clone(q[:len(q)+1])
		for i := range q {
			c[i].Selectors = c[i].Selectors[:len(c[i].Selectors)+2]
		}
		return c
	}
	return write.Same(full(a), full(b))
}

const (
	mixed = `{"a":[{"a":[1,2,{"b":[3]}]},[4,[5,[6]]]],"b":{"a":{"a":{"a":7}}},"a":8}`
	ways3 = "$..*..*"
)

// P2, and the rules: what is handed in isn't changed, spare room included.
func TestArguments(t *testing.T) {
	for _, text := range append(texts(), mixed) {
		v, kept := spare(value(t, text)), spare(value(t, text))
		for _, s := range []string{"$", ways3, "$..[::-1,0]", "$..a", "$..['a','b']..[0,-1]", "$.a[0].a", "$[*,*]..*"} {
			q := sparing(parsed(t, s))
			eval.Row(v, q)
			eval.Nodes(v, q)
			for _, g := range q {
				eval.Children(v, g.Selectors[0])
			}
			if !sameSpare(v, kept) || !sameSparing(q, sparing(parsed(t, s))) {
				t.Fatalf("%s or %s was changed", text, s)
			}
		}
	}
}

// P16.2, P16.3: steps and nodes are new memory: what is changed in one isn't in another, nor in a later answer.
func TestNewMemory(t *testing.T) {
	v := value(t, mixed)
	for _, s := range []string{"$", "$.*", "$.a[0].a", ways3, "$..*", "$..a", "$[*,*]..*", "$..[::-1]"} {
		q := parsed(t, s)
		row := rowByWords(v, q)
		apart(t, s, func() []eval.Node { return eval.Row(v, q) }, row)
		apart(t, s, func() []eval.Node { return eval.Nodes(v, q) }, nodesByWords(row))
	}
}

// apart spoils node by node of a call's answer, and then all of it: the other nodes, and a later answer, stay.
func apart(t *testing.T, what string, call func() []eval.Node, want []one) {
	t.Helper()
	l := call()
	for i := range l {
		spoil(slices.Clone(l[i : i+1]))
		if !same(l[i+1:], want[i+1:]) {
			t.Fatalf("%s: node %d has memory of a later one", what, i)
		}
	}
	for i := range l {
		for _, j := range l[i+1:] {
			_ = append(l[i].Steps, api.Step{Name: "more"})
			if slices.ContainsFunc(j.Steps[:cap(j.Steps)], func(s api.Step) bool { return s.Name == "more" }) {
				t.Fatalf("%s: node %d has spare room of a later one", what, i)
			}
		}
	}
	other := call()
	spoil(l)
	if !same(other, want) || !same(call(), want) {
		t.Fatalf("%s: answers share memory", what)
	}
}

// P16.1: the places are new memory.
func TestChildrenMemory(t *testing.T) {
	for _, s := range append(few(), stride(2)) {
		for _, text := range []string{"[0,1,2,3]", `{"a":1,"b":2,"a":3}`} {
			v := value(t, text)
			want := childrenByWords(v, s)
			l, other := eval.Children(v, s), eval.Children(v, s)
			l = l[:cap(l)]
			for i := range l {
				l[i] = -9
			}
			if !slices.Equal(other, want) || !slices.Equal(eval.Children(v, s), want) {
				t.Fatalf("%s by %+v", text, s)
			}
		}
	}
}

// The rules: the value and the query may be written over behind the call.
func TestWrittenOver(t *testing.T) {
	for _, s := range []string{"$", "$..*", ways3, "$.b.a", "$..[::-1]"} {
		v, q := value(t, mixed), parsed(t, s)
		want := rowByWords(value(t, mixed), q)
		row, nodes := eval.Row(v, q), eval.Nodes(v, q)
		var over func(v api.Value)
		over = func(v api.Value) {
			for i := range v.Items {
				over(v.Items[i])
				v.Items[i] = api.Value{From: -3}
			}
			for i := range v.Names {
				v.Names[i] = "over"
			}
		}
		over(v)
		for _, g := range q {
			clear(g.Selectors)
		}
		clear(q)
		if !same(row, want) || !same(nodes, nodesByWords(want)) {
			t.Fatalf("%s: an answer hangs on what was handed in", s)
		}
	}
}

// P2: calls stand alone: the same again, whatever was asked between.
func TestStandAlone(t *testing.T) {
	v, q := value(t, mixed), parsed(t, ways3)
	row := rowByWords(v, q)
	for _, text := range texts() {
		eval.Nodes(value(t, text), parsed(t, "$..a..*"))
		eval.Row(value(t, text), parsed(t, "$..x"))
		if !same(eval.Row(v, q), row) || !same(eval.Nodes(v, q), nodesByWords(row)) {
			t.Fatalf("behind %s", text)
		}
	}
}

// P16.3: of a deep value each node once, though there are more ways to it than could ever be gone.
func TestManyWays(t *testing.T) {
	const deep = 120
	v := value(t, strings.Repeat("[", deep)+`{"a":1}`+strings.Repeat("]", deep))
	l := eval.Nodes(v, parsed(t, "$"+strings.Repeat("..*", 60)))
	if len(l) != deep+1-59 {
		t.Fatal(len(l))
	}
	for i, n := range l {
		if steps := 60 + i; len(n.Steps) != steps || n.From != steps && n.From != deep+5 {
			t.Fatalf("%d: %d steps, From %d", i, len(n.Steps), n.From)
		}
	}
	wide := value(t, "["+strings.Repeat("[[1],[2]],", 500)+"[]]")
	if l := eval.Nodes(wide, parsed(t, "$[*,*,*,*]..[0,0,0,0]..*")); len(l) != 500 {
		t.Fatal(len(l))
	}
}

// P16.2: what leads nowhere isn't gone through again on each of the ways to it.
func TestNowhere(t *testing.T) {
	const deep = 120
	v := value(t, strings.Repeat("[", deep)+`{"a":1}`+strings.Repeat("]", deep))
	for _, s := range []string{strings.Repeat("..*", 60) + ".x", strings.Repeat("..*", 40) + "..[1]..*", "[0,0]" + strings.Repeat("[0,0]", 100) + "[1]"} {
		if l := eval.Row(v, parsed(t, "$"+s)); len(l) != 0 {
			t.Fatalf("%s: %d", s, len(l))
		}
	}
	q := parsed(t, "$"+strings.Repeat("[0]", 60)+strings.Repeat("..*", 61))
	if l := eval.Row(v, q); len(l) != 1 || len(l[0].Steps) != deep+1 || l[0].From != deep+5 {
		t.Fatal(len(l))
	}
}

// P16.2, P16.3: no value is too deep, and no query too long.
func TestTooDeepForNone(t *testing.T) {
	const deep = 200_000
	text := strings.Repeat(`{"a":[`, deep/2) + `{"x":[7]}` + strings.Repeat("]}", deep/2)
	v := value(t, text)
	for _, s := range []string{"$..x", "$..a..x", "$..*..a..x", "$..x[0,0]"} {
		l := eval.Nodes(v, parsed(t, s))
		if len(l) != 1 || len(l[0].Steps) < deep+1 || l[0].Steps[deep] != (api.Step{Named: true, Name: "x"}) || text[l[0].To-1] != ']' && text[l[0].To-1] != '7' {
			t.Fatalf("%s: %d nodes", s, len(l))
		}
	}
	if l := eval.Row(v, parsed(t, "$..x")); len(l) != 1 || text[l[0].From:l[0].To] != "[7]" || len(l[0].Steps) != deep+1 {
		t.Fatalf("%d nodes", len(l))
	}
	if l := eval.Row(v, parsed(t, "$..y..*")); len(l) != 0 {
		t.Fatal(len(l))
	}
	for _, l := range [][]eval.Node{eval.Row(v, parsed(t, "$"+strings.Repeat(".a[0]", deep/2))), eval.Nodes(v, parsed(t, "$"+strings.Repeat(".a[0]", deep/2)))} {
		if len(l) != 1 || text[l[0].From:l[0].To] != `{"x":[7]}` || len(l[0].Steps) != deep {
			t.Fatalf("%d nodes", len(l))
		}
	}
}
