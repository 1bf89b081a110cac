package tree_test

import (
	"math"
	"slices"
	"strings"
	"testing"

	"riffle/api"
	"riffle/tree"
)

// parsed is the value of a text.
func parsed(t *testing.T, s string) api.Value {
	t.Helper()
	v, x := tree.Parse([]byte(s), 99)
	if x.Kind != api.Accept {
		t.Fatalf("Parse(%s) = %v", s, x)
	}
	return v
}

// strange has values that are of no text: items and names in what holds none, other kinds, more names than items, and more items than names.
func strange() []api.Value {
	one := api.Value{Kind: api.Number, From: 1, To: 2, Text: "1"}
	list := api.Value{Kind: api.Array, Items: []api.Value{one}}
	return []api.Value{
		{Kind: api.Number, Items: []api.Value{list}, Names: []string{"a"}}, {Kind: api.String, Items: []api.Value{list, list}, Names: []string{"a", "a"}}, {Items: []api.Value{list}},
		{Kind: 6, Items: []api.Value{one, list}, Names: []string{"a", "a"}}, {Kind: -1, Names: []string{"a", "a"}}, {Kind: math.MaxInt, Items: []api.Value{list}}, {Kind: math.MinInt},
		{Kind: api.Array, Names: []string{"a", "a"}}, {Kind: api.Array, Items: []api.Value{one}, Names: []string{"a", "a"}}, {Kind: api.Array, Items: []api.Value{one, one}, Names: []string{"a", "a"}, Text: "t"},
		{Kind: api.Object, Names: []string{"a", "a"}}, {Kind: api.Object, Items: []api.Value{one}, Names: []string{"a", "a"}}, {Kind: api.Object, Items: []api.Value{one, list, one}}, {Kind: api.Object, Items: []api.Value{one, list, one}, Names: []string{"", "\xff"}},
		{Kind: api.Object, From: -5, To: math.MinInt, Text: "\x00", Items: []api.Value{{Kind: 77, Items: []api.Value{{Kind: api.Object}}}}, Names: []string{"a"}},
	}
}

// P10.4: At, by steps of each kind, in values of each kind.
func TestAt(t *testing.T) {
	const s = `{"a":[10,{"b":null,"":[true]},"x"],"c":{},"a":7,"":"y","d":[]}`
	v := parsed(t, s)
	for _, c := range []struct {
		steps []api.Step
		want  string
	}{
		{nil, note(v)}, {[]api.Step{}, note(v)},
		{[]api.Step{named("a")}, `a5-34(n6-8"10" o9-29("b"z14-18"null" ""a22-28(b23-27"true")) s30-33"x")`},
		{[]api.Step{named("a"), index(0)}, `n6-8"10"`}, {[]api.Step{named("a"), index(1)}, `o9-29("b"z14-18"null" ""a22-28(b23-27"true"))`}, {[]api.Step{named("a"), index(2)}, `s30-33"x"`},
		{[]api.Step{named("a"), index(1), named("b")}, `z14-18"null"`}, {[]api.Step{named("a"), index(1), named(""), index(0)}, `b23-27"true"`},
		{[]api.Step{named("c")}, `o39-41`}, {[]api.Step{named("")}, `s51-54"y"`}, {[]api.Step{named("d")}, `a59-61`},
		// what is behind the last, ahead of the first, and of no name
		{[]api.Step{named("a"), index(3)}, "none"}, {[]api.Step{named("a"), index(-1)}, "none"}, {[]api.Step{named("a"), index(-3)}, "none"}, {[]api.Step{named("a"), index(math.MaxInt)}, "none"}, {[]api.Step{named("a"), index(math.MinInt)}, "none"},
		{[]api.Step{named("b")}, "none"}, {[]api.Step{named("A")}, "none"}, {[]api.Step{named("a ")}, "none"}, {[]api.Step{named("\xff")}, "none"}, {[]api.Step{named("a"), index(1), named("c")}, "none"},
		// a name in an array, and an index in an object
		{[]api.Step{named("a"), named("0")}, "none"}, {[]api.Step{named("a"), named("")}, "none"}, {[]api.Step{named("a"), named("b")}, "none"}, {[]api.Step{index(0)}, "none"}, {[]api.Step{index(2)}, "none"}, {[]api.Step{index(-1)}, "none"},
		// into what holds nothing, and into what holds none
		{[]api.Step{named("c"), named("a")}, "none"}, {[]api.Step{named("c"), named("")}, "none"}, {[]api.Step{named("c"), index(0)}, "none"}, {[]api.Step{named("d"), index(0)}, "none"}, {[]api.Step{named("d"), named("")}, "none"},
		{[]api.Step{named("a"), index(0), index(0)}, "none"}, {[]api.Step{named("a"), index(2), index(0)}, "none"}, {[]api.Step{named(""), named("")}, "none"}, {[]api.Step{named("a"), index(1), named("b"), named("b")}, "none"}, {[]api.Step{named("a"), index(1), named(""), index(0), index(0)}, "none"},
		// behind a step that leads nowhere no other one leads anywhere
		{[]api.Step{named("b"), index(0)}, "none"}, {[]api.Step{named("a"), index(-1), named("b")}, "none"},
		// what a step has that its kind doesn't ask for
		{[]api.Step{{Named: true, Name: "a", Index: 9}, {Name: "zz", Index: 1}}, `o9-29("b"z14-18"null" ""a22-28(b23-27"true"))`},
	} {
		if got := noteSoFar(tree.At(v, c.steps...)); got != c.want {
			t.Errorf("At %v is %s, want %s", c.steps, got, c.want)
		}
	}
	for _, s := range []string{"null", "true", "7", `"a"`} {
		for _, step := range []api.Step{index(0), index(-1), named(""), named("a")} {
			if got := noteSoFar(tree.At(parsed(t, s), step)); got != "none" {
				t.Errorf("At %v of %s is %s", step, s, got)
			}
		}
		if got, want := noteSoFar(tree.At(parsed(t, s))), note(parsed(t, s)); got != want {
			t.Errorf("At of %s is %s, want %s", s, got, want)
		}
	}
}

// P10.4: by a name At goes to the first item with it, even where only a later one would go on.
func TestAtTheFirstOfAName(t *testing.T) {
	v := parsed(t, `{"b":0,"a":{"x":1},"a":[2],"a":{"x":3,"y":4}}`)
	for _, c := range []struct {
		want  string
		steps []api.Step
	}{
		{`o11-18("x"n16-17"1")`, []api.Step{named("a")}}, {`n16-17"1"`, []api.Step{named("a"), named("x")}}, {"none", []api.Step{named("a"), index(0)}}, {"none", []api.Step{named("a"), named("y")}},
	} {
		if got := noteSoFar(tree.At(v, c.steps...)); got != c.want {
			t.Errorf("At %v is %s, want %s", c.steps, got, c.want)
		}
	}
}

// P10.4: At goes to each value that is in one, by the steps to it.
func TestAtOfEachNode(t *testing.T) {
	var look func(whole, v api.Value, steps []api.Step)
	look = func(whole, v api.Value, steps []api.Step) {
		if got, ok := tree.At(whole, steps...); !ok || !equal(got, v) {
			t.Errorf("At %v of %s is %s, want %s", steps, note(whole), noteSoFar(got, ok), note(v))
		}
		for i, x := range v.Items {
			step := index(i)
			if v.Kind == api.Object {
				if slices.Index(v.Names, v.Names[i]) < i {
					continue
				}
				step = named(v.Names[i])
			}
			look(whole, x, append(slices.Clip(steps), step))
		}
	}
	for _, s := range texts {
		v := parsed(t, s)
		look(v, v, nil)
	}
}

// Rules: what At is given isn't changed, nor kept, and what it answers is new, even where lists of what it was given are one.
func TestAtAnswersAreNew(t *testing.T) {
	for _, s := range texts {
		v := parsed(t, `{"a":[0,`+s+`]}`)
		want := copied(v)
		steps := []api.Step{named("a"), index(1), named("room")}
		for range 2 {
			x, _ := tree.At(v, steps[:2]...)
			y, _ := tree.At(v, steps[:2]...)
			z, _ := tree.At(v)
			if !equal(v, want) || !slices.Equal(steps, []api.Step{named("a"), index(1), named("room")}) {
				t.Fatalf("At changed what it was given to %s, %v", note(v), steps)
			}
			scribble(x)
			if !equal(v, want) || !equal(z, want) || !equal(y, want.Items[0].Items[1]) {
				t.Fatalf("%s: what was answered is no memory of its own", s)
			}
			scribble(z)
			if !equal(v, want) || !equal(y, want.Items[0].Items[1]) {
				t.Fatalf("%s: what was answered is no memory of its own", s)
			}
		}
	}
	list, names := make([]api.Value, 2, 5), make([]string, 2, 5)
	one := api.Value{Kind: api.Object, Items: list, Names: names}
	v := api.Value{Kind: api.Array, Items: []api.Value{one, one}}
	x, _ := tree.At(v)
	scribble(x.Items[0])
	if !equal(x.Items[1], one) || !equal(v.Items[0], one) || !equal(one, api.Value{Kind: api.Object, Items: make([]api.Value, 2), Names: make([]string, 2)}) {
		t.Errorf("two lists of one answer share memory: %s", note(x))
	}
	if list[:5][4].Kind != 0 || names[:5][4] != "" {
		t.Error("the spare room was written over")
	}
}

// P10.4: Depth of values of each kind.
func TestDepth(t *testing.T) {
	for s, want := range map[string]int{
		"null": 0, "true": 0, "false": 0, "7": 0, `""`: 0, `"[[["`: 0,
		"[]": 1, "{}": 1, "[1]": 1, `{"a":1}`: 1, "[1,2,3]": 1, "[[]]": 2, "[{}]": 2, `{"a":[]}`: 2, `{"a":{}}`: 2, "[[1]]": 2, "[[[[[]]]]]": 5,
		"[[],[[]],[]]": 3, "[[[]],[],1]": 3, "[1,[],[[]]]": 3, `{"a":[],"b":{"c":[{}]},"d":[[]]}`: 4, `{"a":[[[1]]],"b":{"c":0}}`: 4, "[[],[],[]]": 2,
	} {
		v := parsed(t, s)
		if got := tree.Depth(v); got != want {
			t.Errorf("Depth of %s is %d, want %d", s, got, want)
		}
		if got := tree.Depth(api.Value{Kind: api.Array, Items: []api.Value{{}, v, {}}}); got != want+1 {
			t.Errorf("Depth of %s in an array is %d, want %d", s, got, want+1)
		}
		if got := tree.Depth(api.Value{Kind: api.Object, Items: []api.Value{{}, v}, Names: []string{"", ""}}); got != want+1 {
			t.Errorf("Depth of %s in an object is %d, want %d", s, got, want+1)
		}
	}
	if got := tree.Depth(api.Value{}); got != 0 {
		t.Errorf("Depth of a zero value is %d", got)
	}
	for n := 1; n < 99; n++ {
		if got := tree.Depth(parsed(t, strings.Repeat("[", n)+strings.Repeat("]", n))); got != n {
			t.Errorf("Depth is %d, want %d", got, n)
		}
	}
}

// P10.4: a text's depth is the least one by which Parse accepts it; one below 1 is 1.
func TestDepthIsTheLeast(t *testing.T) {
	for _, s := range texts {
		deep := tree.Depth(parsed(t, s))
		for depth := -1; depth < deep+3; depth++ {
			if _, x := tree.Parse([]byte(s), depth); (x.Kind == api.Accept) != (max(depth, 1) >= deep) {
				t.Errorf("Parse(%s, %d) = %v, its Depth is %d", s, depth, x, deep)
			}
		}
	}
}

// P10.4: Twice of names twice in one object, wherever it is, and of the same name in several.
func TestTwice(t *testing.T) {
	for s, want := range map[string]bool{
		"null": false, "7": false, `"a"`: false, "[]": false, "{}": false, `["a","a"]`: false, "[1,1]": false,
		`{"a":1}`: false, `{"a":1,"b":1}`: false, `{"a":1,"A":1}`: false, `{"a":1,"a ":1}`: false, `{"":1,"a":1}`: false,
		`{"a":1,"a":1}`: true, `{"a":1,"a":2}`: true, `{"":1,"":2}`: true, `{"a":1,"b":2,"a":3}`: true, `{"b":1,"a":2,"a":3}`: true, `{"a":1,"\u0061":1}`: true, `{"c":0,"a":1,"b":1,"d":0,"b":1}`: true,
		`{"a":{"a":{"a":1}}}`: false, `[{"a":1},{"a":2}]`: false, `{"a":{"b":1},"b":{"a":1}}`: false, `{"x":{"a":1},"y":{"a":1}}`: false, `{"a":["a",{"a":"a"}]}`: false,
		`[{"a":1},{"b":1,"b":2}]`: true, `[{"b":1,"b":2},{"a":1}]`: true, `{"x":[1,[{"y":{"a":1,"a":2}}]]}`: true, `{"x":{},"y":{"z":{"a":1,"b":1,"a":2}},"w":1}`: true, `[[],[[{"a":[],"a":[]}]],[]]`: true,
	} {
		if got := tree.Twice(parsed(t, s)); got != want {
			t.Errorf("Twice of %s is %v", s, got)
		}
	}
	many := api.Value{Kind: api.Object}
	for n := range 3000 {
		many.Items, many.Names = append(many.Items, api.Value{}), append(many.Names, strings.Repeat("n", n))
	}
	if tree.Twice(many) {
		t.Error("Twice of many names")
	}
	many.Names[2999] = many.Names[1]
	if !tree.Twice(many) {
		t.Error("not Twice of many names, the last of which is the second")
	}
	if tree.Twice(api.Value{}) {
		t.Error("Twice of a zero value")
	}
}

// P10.4: Same of values that are one wherever they stand, and of those that aren't.
func TestSame(t *testing.T) {
	for _, c := range [][2]string{
		{"null", " null"}, {"true", "true "}, {"7", "\n7"}, {`"a"`, `"\u0061"`}, {`"\/"`, `"/"`}, {"[]", " [ ]"}, {"{}", "{ } "}, {"[1,[2]]", "[ 1 , [ 2 ] ]"}, {`{"a":1,"a":{}}`, ` { "a" : 1 , "\u0061" : { } }`},
	} {
		a, b := parsed(t, c[0]), parsed(t, c[1])
		if !tree.Same(a, b) || !tree.Same(b, a) {
			t.Errorf("%s and %s aren't the same", c[0], c[1])
		}
	}
	// no two of these are the same
	others := []string{
		"null", "true", "false", "7", "7.0", "70e-1", "0", "-0", `""`, `"a"`, `"A"`, `"null"`, `"7"`, "[]", "{}", "[[]]", "[{}]", "[null]", "[7]", "[1,2]", "[2,1]", "[1,2,3]", "[1]", "[[1,2]]", "[[1],2]", "[1,[2]]", `["a"]`, `["a","a"]`,
		`{"a":1}`, `{"a":2}`, `{"b":1}`, `{"":1}`, `{"a":"1"}`, `{"a":1,"b":2}`, `{"b":2,"a":1}`, `{"a":2,"b":1}`, `{"a":1,"a":2}`, `{"a":2,"a":1}`, `{"a":1,"b":2,"c":3}`, `{"a":{}}`, `{"a":[]}`, `{"a":{"b":1}}`, `{"a":{"b":2}}`, `{"a":{"c":1}}`, `{"a":[1,{"b":[{"c":0}]}]}`, `{"a":[1,{"b":[{"d":0}]}]}`, `{"a":[1,{"b":[{"c":1}]}]}`,
	}
	for i, s := range others {
		for j, u := range others {
			if got := tree.Same(parsed(t, s), parsed(t, u)); got != (i == j) {
				t.Errorf("Same of %s and %s is %v", s, u, got)
			}
		}
	}
}

// P10.4: each field of a value is looked at, but for where it stands; nil is as good as an empty list.
func TestSameByEachField(t *testing.T) {
	v := func() api.Value {
		return api.Value{Kind: api.Object, From: 3, To: 9, Text: "t", Items: []api.Value{{Kind: api.Number, Text: "1"}, {Kind: api.Array, Items: []api.Value{{}}}}, Names: []string{"a", "b"}}
	}
	for name, change := range map[string]func(*api.Value){
		"Kind": func(x *api.Value) { x.Kind = api.Array }, "Text": func(x *api.Value) { x.Text = "" },
		"a name": func(x *api.Value) { x.Names[1] = "a" }, "a name more": func(x *api.Value) { x.Names = append(x.Names, "c") }, "a name less": func(x *api.Value) { x.Names = x.Names[:1] }, "no names": func(x *api.Value) { x.Names = nil },
		"an item's Kind": func(x *api.Value) { x.Items[0].Kind = api.String }, "an item's Text": func(x *api.Value) { x.Items[0].Text = "2" }, "an item's items": func(x *api.Value) { x.Items[1].Items[0].Kind = 1 }, "an item's Names": func(x *api.Value) { x.Items[1].Names = []string{""} },
		"an item more": func(x *api.Value) { x.Items = append(x.Items, api.Value{}) }, "an item less": func(x *api.Value) { x.Items = x.Items[:1] }, "no items": func(x *api.Value) { x.Items = nil }, "order": func(x *api.Value) { slices.Reverse(x.Items) }, "order of names": func(x *api.Value) { slices.Reverse(x.Names) },
	} {
		x := v()
		change(&x)
		if tree.Same(v(), x) || tree.Same(x, v()) || !tree.Same(x, copied(x)) {
			t.Errorf("Same doesn't look at %s", name)
		}
	}
	x := v()
	x.From, x.To, x.Items[0].From, x.Items[1].To, x.Items[1].Items[0].From = 0, -1, 5, 6, 7
	x.Items[0].Items, x.Items[1].Names = []api.Value{}, []string{}
	if !tree.Same(v(), x) || !tree.Same(x, v()) {
		t.Error("Same looks at where values stand, or at whether a list is nil")
	}
	if !tree.Same(api.Value{}, api.Value{}) || tree.Same(api.Value{}, api.Value{Kind: 6}) {
		t.Error("Same of zero values")
	}
}

// P1 and P10.4: values that are of no text. An item is what an array or an object has; an object's has a name, if there is one at its place.
func TestStrangeValues(t *testing.T) {
	steps := []api.Step{index(0), index(1), index(2), index(-1), named("a"), named(""), named("\xff"), named("b")}
	for i, v := range strange() {
		want := copied(v)
		if got := noteSoFar(tree.At(v)); got != note(want) {
			t.Errorf("At of %s is %s", note(want), got)
		}
		for _, s := range steps {
			for _, u := range steps {
				tree.At(v, s, u)
			}
			x, ok := tree.At(v, s)
			if ok && (s.Named != (v.Kind == api.Object) || !s.Named && v.Kind != api.Array) || !ok && note(x) != "z0-0" {
				t.Errorf("At %v of %s is %s", s, note(v), noteSoFar(x, ok))
			}
		}
		if deep := tree.Depth(v); (deep > 0) != (v.Kind == api.Array || v.Kind == api.Object) || deep > 2 {
			t.Errorf("Depth of %s is %d", note(v), deep)
		}
		if tree.Twice(v) {
			t.Errorf("Twice of %s", note(v))
		}
		for j, w := range strange() {
			if tree.Same(v, w) != (i == j) {
				t.Errorf("Same of %s and %s is %v", note(v), note(w), i != j)
			}
		}
		if !equal(v, want) {
			t.Errorf("%s became %s", note(want), note(v))
		}
	}
}
