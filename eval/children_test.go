package eval_test

import (
	"math"
	"slices"
	"strings"
	"testing"

	"riffle/api"
	"riffle/eval"
	"riffle/tree"
)

// greatest is the greatest integer.
const greatest = 1<<53 - 1

// any selects all.
var any = api.Selector{Kind: api.ByAny}

// name is a selector by name.
func name(s string) api.Selector { return api.Selector{Kind: api.ByName, Name: s} }

// index is a selector by index.
func index(i int) api.Selector { return api.Selector{Kind: api.ByIndex, Index: i} }

// stride is a slice without a start and an end.
func stride(n int) api.Selector { return api.Selector{Kind: api.BySlice, Stride: n} }

// from is a slice with a start, too; to is one with an end, too.
func from(n int, s api.Selector) api.Selector {
	s.Start, s.HasStart = n, true
	return s
}

func to(n int, s api.Selector) api.Selector {
	s.End, s.HasEnd = n, true
	return s
}

// value is the value of a text.
func value(t *testing.T, text string) api.Value {
	t.Helper()
	v, x := tree.Parse([]byte(text), len(text))
	if x.Kind != api.Accept {
		t.Fatalf("%.60s is no text: %v", text, x)
	}
	return v
}

// isChildren holds Children of a text's value against what is wanted.
func isChildren(t *testing.T, text string, s api.Selector, want ...int) {
	t.Helper()
	if got := eval.Children(value(t, text), s); !slices.Equal(got, want) {
		t.Errorf("Children of %.60s by %+v = %v, want %v", text, s, got, want)
	}
}

// P16.1: by name, of an object all items of that name.
func TestByName(t *testing.T) {
	const several = `{"a":1,"b":{"x":1},"a":[2],"c":3,"b":null,"":4,"a":5}`
	for n, want := range map[string][]int{
		"a": {0, 2, 6}, "b": {1, 4}, "c": {3}, "": {5}, "x": nil, "A": nil, "aa": nil, "a ": nil, " a": nil, "a\x00": nil, "0": nil, "*": nil, "\xff": nil,
	} {
		isChildren(t, several, name(n), want...)
	}
	for n, want := range map[string][]int{"name": {0}, "nam": {1}, "names": {2}, "nane": {3}, "Name": {4}, "n\u00e4me": {5}, "na\u0308me": {6}, "nome": nil, "eman": nil, "": nil} {
		isChildren(t, `{"name":0,"nam":0,"names":0,"nane":0,"Name":0,"n\u00e4me":0,"na\u0308me":0}`, name(n), want...)
	}
	isChildren(t, "{}", name(""))
	isChildren(t, "{}", name("a"))
	isChildren(t, `{"":1}`, name(""), 0)
	isChildren(t, `{"":1}`, name("a"))
	isChildren(t, `{"a":1}`, name("a"), 0)
	isChildren(t, `{"a":1}`, name(""))
	isChildren(t, `{"":1,"":2,"":3}`, name(""), 0, 1, 2)
	isChildren(t, `{"a":1,"b":2,"c":3}`, name("a"), 0)
	isChildren(t, `{"a":1,"b":2,"c":3}`, name("b"), 1)
	isChildren(t, `{"a":1,"b":2,"c":3}`, name("c"), 2)
	isChildren(t, `{"\u0061":1,"\ud83d\ude00":2,"\"\\\/\n":3,"\ufffd":4}`, name("a"), 0)
	isChildren(t, `{"\u0061":1,"\ud83d\ude00":2,"\"\\\/\n":3,"\ufffd":4}`, name("\U0001f600"), 1)
	isChildren(t, `{"\u0061":1,"\ud83d\ude00":2,"\"\\\/\n":3,"\ufffd":4}`, name("\"\\/\n"), 2)
	isChildren(t, `{"\u0061":1,"\ud83d\ude00":2,"\"\\\/\n":3,"\ufffd":4}`, name("\ufffd"), 3)
	isChildren(t, `{"\u0061":1,"\ud83d\ude00":2,"\"\\\/\n":3,"\ufffd":4}`, name(`\u0061`))
	isChildren(t, `{"\u0061":1,"\ud83d\ude00":2,"\"\\\/\n":3,"\ufffd":4}`, name("\xff"))
}

// P16.1: by name, of a long object: the first, one in the middle, the last, each, and none.
func TestByNameLong(t *testing.T) {
	const many = 1000
	var l []string
	for i := range many {
		l = append(l, `"`+strings.Repeat("n", i)+`":[]`)
	}
	v := value(t, "{"+strings.Join(l, ",")+"}")
	for i := range many {
		if got := eval.Children(v, name(strings.Repeat("n", i))); !slices.Equal(got, []int{i}) {
			t.Fatalf("of %d signs: %v", i, got)
		}
	}
	if got := eval.Children(v, name(strings.Repeat("n", many))); len(got) != 0 {
		t.Fatal(got)
	}
}

// P16.1: all, of an array or an object, its items.
func TestByAny(t *testing.T) {
	isChildren(t, "[]", any)
	isChildren(t, "{}", any)
	isChildren(t, "[[]]", any, 0)
	isChildren(t, "[1,[2,3],{}]", any, 0, 1, 2)
	isChildren(t, `{"":null}`, any, 0)
	isChildren(t, `{"a":1,"b":[1,2,3,4],"a":2}`, any, 0, 1, 2)
}

// P16.1: by index, of an array.
func TestByIndex(t *testing.T) {
	for i, want := range map[int][]int{
		0: {0}, 1: {1}, 2: {2}, 3: {3}, 4: nil, 5: nil, -1: {3}, -2: {2}, -3: {1}, -4: {0}, -5: nil, -6: nil,
		greatest: nil, -greatest: nil, 1 << 32: nil, -1 << 32: nil, 1<<32 + 1: nil, 256: nil,
	} {
		isChildren(t, `[0,[1,2],{"a":3},"b"]`, index(i), want...)
	}
	for _, i := range []int{0, 1, -1, greatest, -greatest} {
		isChildren(t, "[]", index(i))
	}
	isChildren(t, "[7]", index(0), 0)
	isChildren(t, "[7]", index(-1), 0)
	isChildren(t, "[7]", index(1))
	isChildren(t, "[7]", index(-2))
}

// P16.1: by slice, of an array: rising, but with a Stride below 0 falling.
func TestBySlice(t *testing.T) {
	const five = "[0,1,2,3,4]"
	isChildren(t, five, stride(1), 0, 1, 2, 3, 4)
	isChildren(t, five, stride(2), 0, 2, 4)
	isChildren(t, five, stride(3), 0, 3)
	isChildren(t, five, stride(4), 0, 4)
	isChildren(t, five, stride(5), 0)
	isChildren(t, five, stride(greatest), 0)
	isChildren(t, five, stride(0))
	isChildren(t, five, stride(-1), 4, 3, 2, 1, 0)
	isChildren(t, five, stride(-2), 4, 2, 0)
	isChildren(t, five, stride(-3), 4, 1)
	isChildren(t, five, stride(-5), 4)
	isChildren(t, five, stride(-greatest), 4)
	isChildren(t, five, from(2, stride(1)), 2, 3, 4)
	isChildren(t, five, from(-2, stride(1)), 3, 4)
	isChildren(t, five, from(-9, stride(1)), 0, 1, 2, 3, 4)
	isChildren(t, five, from(-9, stride(2)), 0, 2, 4)
	isChildren(t, five, from(5, stride(1)))
	isChildren(t, five, from(greatest, stride(1)))
	isChildren(t, five, from(-greatest, stride(3)), 0, 3)
	isChildren(t, five, from(1, stride(2)), 1, 3)
	isChildren(t, five, to(2, stride(1)), 0, 1)
	isChildren(t, five, to(-2, stride(1)), 0, 1, 2)
	isChildren(t, five, to(9, stride(1)), 0, 1, 2, 3, 4)
	isChildren(t, five, to(0, stride(1)))
	isChildren(t, five, to(-5, stride(1)))
	isChildren(t, five, to(-greatest, stride(1)))
	isChildren(t, five, to(greatest, stride(4)), 0, 4)
	isChildren(t, five, from(1, to(4, stride(1))), 1, 2, 3)
	isChildren(t, five, from(-4, to(-1, stride(2))), 1, 3)
	isChildren(t, five, from(3, to(1, stride(1))))
	isChildren(t, five, from(2, to(2, stride(1))))
	isChildren(t, five, from(0, to(0, stride(0))))
	isChildren(t, five, from(1, to(4, stride(0))))
	isChildren(t, five, from(3, stride(-1)), 3, 2, 1, 0)
	isChildren(t, five, from(-2, stride(-1)), 3, 2, 1, 0)
	isChildren(t, five, from(9, stride(-2)), 4, 2, 0)
	isChildren(t, five, from(0, stride(-1)), 0)
	isChildren(t, five, from(-5, stride(-1)), 0)
	isChildren(t, five, from(-6, stride(-1)))
	isChildren(t, five, to(1, stride(-1)), 4, 3, 2)
	isChildren(t, five, to(-3, stride(-1)), 4, 3)
	isChildren(t, five, to(-9, stride(-1)), 4, 3, 2, 1, 0)
	isChildren(t, five, to(4, stride(-1)))
	isChildren(t, five, to(0, stride(-2)), 4, 2)
	isChildren(t, five, from(3, to(0, stride(-2))), 3, 1)
	isChildren(t, five, from(0, to(3, stride(-1))))
	isChildren(t, five, from(greatest, to(-greatest, stride(-1))), 4, 3, 2, 1, 0)
	isChildren(t, five, from(-greatest, to(greatest, stride(1))), 0, 1, 2, 3, 4)
	isChildren(t, "[]", stride(1))
	isChildren(t, "[]", stride(-1))
	isChildren(t, "[]", from(0, to(1, stride(1))))
	isChildren(t, "[7]", stride(1), 0)
	isChildren(t, "[7]", stride(-1), 0)
	isChildren(t, "[7]", from(-1, stride(-1)), 0)
}

// P16.1: None of other values.
func TestOtherValues(t *testing.T) {
	selectors := []api.Selector{name(""), name("a"), name("0"), any, index(0), index(-1), index(greatest), index(-greatest), stride(0), stride(1), stride(2), stride(-1), from(0, stride(1)), to(1, stride(1)), from(-1, to(-9, stride(-1)))}
	for _, text := range []string{`""`, `"a"`, "0", "-1.5e3", "true", "false", "null"} {
		for _, s := range selectors {
			isChildren(t, text, s)
		}
	}
	for _, s := range selectors {
		switch s.Kind {
		case api.ByName:
			isChildren(t, `[0,{"a":1},"a",""]`, s)
		case api.ByIndex, api.BySlice:
			isChildren(t, `{"0":1,"a":[1,2],"-1":3,"":4}`, s)
			isChildren(t, "{}", s)
		}
	}
}

// P16.1: of an array of more than 2^20 items, too, those that layer 12 Has.
func TestManyItems(t *testing.T) {
	const many = 1<<20 + 3
	v := value(t, "["+strings.Repeat("0,", many-1)+"0]")
	for i, c := range []struct {
		s           api.Selector
		first, last int
		many        int
	}{
		{any, 0, many - 1, many},
		{stride(1), 0, many - 1, many},
		{stride(-1), many - 1, 0, many},
		{stride(2), 0, many - 1, many/2 + 1},
		{stride(-2), many - 1, 0, many/2 + 1},
		{from(-3, stride(1)), many - 3, many - 1, 3},
		{from(1, stride(1)), 1, many - 1, many - 1},
		{from(many-2, to(0, stride(-1))), many - 2, 1, many - 2},
		{index(many - 1), many - 1, many - 1, 1},
		{index(-many), 0, 0, 1},
		{index(-1), many - 1, many - 1, 1},
		{stride(1 << 20), 0, 1 << 20, 2},
	} {
		l := eval.Children(v, c.s)
		if len(l) != c.many || l[0] != c.first || l[len(l)-1] != c.last {
			t.Errorf("%d: %d places, want %d from %d to %d", i, len(l), c.many, c.first, c.last)
		}
	}
}

// P1: selectors and values that are none end, and don't panic.
func TestWrongChildren(t *testing.T) {
	numbers := []int{0, 1, -1, 2, greatest, greatest + 1, -greatest - 1, 1 << 62, -1 << 62, math.MaxInt, math.MaxInt - 1, math.MinInt, math.MinInt + 1}
	values := []api.Value{{}, {Kind: -1}, {Kind: 6}, value(t, "[1,2,3]"), value(t, `{"a":1}`),
		{Kind: api.Array, Items: make([]api.Value, 3), Names: []string{"a"}},
		{Kind: api.Object, Items: make([]api.Value, 3), Names: []string{"a"}},
		{Kind: api.Object, Items: make([]api.Value, 1), Names: []string{"b", "a"}},
		{Kind: api.Object, Names: []string{"a", "a"}},
		{Kind: api.String, Items: make([]api.Value, 2), Names: []string{"a", "a"}},
		{Kind: math.MaxInt, Items: make([]api.Value, 2), Names: []string{"a", "a"}}}
	for kind := -1; kind <= 4; kind++ {
		for _, start := range numbers {
			for _, end := range numbers {
				for _, by := range numbers {
					s := api.Selector{Kind: kind, Name: "a", Index: start, Start: start, End: end, HasStart: true, HasEnd: end != 2, Stride: by}
					for _, v := range values {
						l := eval.Children(v, s)
						if slices.ContainsFunc(l, func(i int) bool { return i < 0 || i >= len(v.Items) }) {
							t.Fatalf("Children(%+v, %+v) = %v", v, s, l)
						}
						if kind < 0 || kind > 3 || v.Kind != api.Array && v.Kind != api.Object || kind == api.ByName && v.Kind != api.Object {
							if len(l) != 0 {
								t.Fatalf("Children(%+v, %+v) = %v, want none", v, s, l)
							}
						}
					}
				}
			}
		}
	}
}
