package hang_test

import (
	"math"
	"slices"
	"testing"

	"riffle/api"
	"riffle/hang"
	"riffle/tree"
)

// No way is possible; and one is: known from a place on, known not to from a place on, or open as yet.
func no() hang.Fate          { return hang.Fate{Holds: -1, Fails: -1} }
func holds(at int) hang.Fate { return hang.Fate{May: true, Holds: at, Fails: -1} }
func fails(at int) hang.Fate { return hang.Fate{May: true, Holds: -1, Fails: at} }
func opened() hang.Fate      { return hang.Fate{May: true, Holds: -1, Fails: -1} }

// isFate holds the Fate of where places lead, in the value so far of a text's beginning.
func isFate(t *testing.T, text, q string, want hang.Fate, places ...int) {
	t.Helper()
	if f := hang.Of(part(t, text), parsed(t, q), places...); f != want {
		t.Errorf("Of %v of %s by %s = %+v, want %+v", places, text, q, f, want)
	}
}

// P17.1: the whole value, without places: of no segments it holds at once, of some there is no way.
func TestWhole(t *testing.T) {
	for _, text := range []string{"1", "  [", "[1]", "{", `"a`, `{"a":1}`, "nul", "null", "[[2]", "  "} {
		v, _, _ := tree.Part([]byte(text), 9, false)
		if f := hang.Of(v, nil); f != holds(0) {
			t.Error(text, f)
		}
		if f := hang.Of(v, api.Query{}, []int{}...); f != holds(0) {
			t.Error(text, f)
		}
		for _, q := range []string{"$.a", "$[0]", "$[*]", "$..*", "$[-1]", "$..[-1]", "$..[::-1]..*", "$[:]"} {
			if f := hang.Of(v, parsed(t, q)); f != no() {
				t.Error(text, q, f)
			}
		}
	}
	isFate(t, "[[1]]", "$", no(), 0)
	isFate(t, "[[1]]", "$", no(), 0, 0)
}

// P17.1: where places lead to no node there is none.
func TestNoNode(t *testing.T) {
	for _, q := range []string{"$", "$..*", "$[*]", "$..*..*", "$[-1]", "$[*][*]", "$..[::-1]"} {
		for _, places := range [][]int{{2}, {-1}, {-2}, {3}, {0, 0}, {1, 1}, {1, -1}, {1, 0, 0}, {5, 0}, {-1, 0}, {math.MaxInt}, {math.MinInt}, {0, 1, 2}, {1, math.MinInt}} {
			isFate(t, "[1,[2]]", q, no(), places...)
			isFate(t, "[1,[2", q, no(), places...)
			isFate(t, `{"a":1,"b":{"a":2}}`, q, no(), places...)
		}
		for _, text := range []string{"1", `"abc"`, "null", "tr", "[]", "{}", "[", "{", `{"a"`, `{"a":`} {
			isFate(t, text, q, no(), 0)
			isFate(t, text, q, no(), -1)
			isFate(t, text, q, no(), 0, 0)
		}
	}
	isFate(t, "[1,", "$[*]", no(), 1)
	isFate(t, "[1,2", "$[*]", holds(0), 1)
}

// P17.1: to a node no way, one, or several.
func TestHowManyWays(t *testing.T) {
	const text = `[[1,2],{"a":3,"b":{"a":4}}]`
	for _, q := range []string{"$[1]", "$[0][0]", "$.a", "$..a", "$[2]", "$[1:]", "$..[1]", "$[*][*]", "$['0']"} {
		isFate(t, text, q, no(), 0)
	}
	for _, q := range []string{"$[0]", "$[*]", "$..*", "$..[0]", "$[:1]", "$[0:5:2]", "$[3,0]", "$[0,0,*]", "$..[*,0,*]"} {
		isFate(t, text, q, holds(0), 0)
	}
	for _, q := range []string{"$[0][1]", "$..[1]", "$..*", "$..[0][1]", "$..[0]..[1]", "$[*][*]", "$[0,0][1,1]", "$..*..*"} {
		isFate(t, text, q, holds(0), 0, 1)
	}
	for _, q := range []string{"$[1].b.a", "$..a", "$..b.a", "$..b..a", "$[*]..a", "$[1]..*", "$..*..*..*", "$..*..a", "$[1]['b','b']['a',*]"} {
		isFate(t, text, q, holds(0), 1, 1, 0)
	}
	for _, q := range []string{"$[1].b", "$[1].b.a.a", "$..b", "$..*..*..*..*", "$[1].a.b", "$..a..b", "$[1][0][0]", "$[1][-1][-1]", "$[-1].a.a", "$[1]..[-1]"} {
		isFate(t, text, q, no(), 1, 1, 0)
	}
}

// P17.1: of an array that hasn't ended what doesn't hang holds at once, by its items so far; what hangs is open.
func TestOpenArray(t *testing.T) {
	for i := range 3 {
		for _, text := range []string{"[1,2,3,", "[1,2,3 ,4", "[[],{},[", `["a","b",{"a`} {
			isFate(t, text, "$[*]", holds(0), i)
			isFate(t, text, "$[:]", holds(0), i)
			isFate(t, text, "$[:3]", holds(0), i)
			isFate(t, text, "$[:9007199254740991]", holds(0), i)
			isFate(t, text, "$[0,1,2]", holds(0), i)
			isFate(t, text, "$[::0]", no(), i)
			isFate(t, text, "$[-1:2:0]", no(), i)
			isFate(t, text, "$[3]", no(), i)
			isFate(t, text, "$[3:]", no(), i)
			isFate(t, text, "$[:0]", no(), i)
			isFate(t, text, "$.a", no(), i)
			for _, q := range []string{"$[-1]", "$[-9]", "$[-9007199254740991]", "$[-1:]", "$[-9:]", "$[:-1]", "$[:-9]", "$[-1:0]", "$[0:-1]", "$[::-1]", "$[2::-1]", "$[0:0:-1]", "$[:5:-1]", "$[9:1:-2]", "$[-1:-1]", "$[0:-9:2]"} {
				isFate(t, text, q, opened(), i)
			}
			isFate(t, text, "$[-1,1]", map[bool]hang.Fate{true: holds(0), false: opened()}[i == 1], i)
		}
	}
	isFate(t, "[1,2", "$[1:]", holds(0), 1)
	isFate(t, "[1,2", "$[1::2]", holds(0), 1)
	isFate(t, "[1,2", "$[0::2]", no(), 1)
	isFate(t, "[1,2", "$[::2]", holds(0), 0)
	isFate(t, "[1", "$[-1]", opened(), 0)
}

// P17.1: of an array that has ended what hangs holds, or fails, from its To on.
func TestEndedArray(t *testing.T) {
	const text = " [10,11,12,13,14] " // from 1 to 17
	for q, want := range map[string][]int{
		"$[-1]": {4}, "$[-2]": {3}, "$[-5]": {0}, "$[-6]": nil, "$[-9007199254740991]": nil,
		"$[-2:]": {3, 4}, "$[-9:]": {0, 1, 2, 3, 4}, "$[-2:-1]": {3}, "$[-1:-2]": nil, "$[-4::2]": {1, 3}, "$[-9::3]": {0, 3},
		"$[:-1]": {0, 1, 2, 3}, "$[:-5]": nil, "$[:-9]": nil, "$[1:-1]": {1, 2, 3}, "$[1:-1:2]": {1, 3}, "$[:-1:9]": {0}, "$[-3:4]": {2, 3},
		"$[::-1]": {0, 1, 2, 3, 4}, "$[::-2]": {0, 2, 4}, "$[3::-2]": {1, 3}, "$[-2::-1]": {0, 1, 2, 3}, "$[:1:-1]": {2, 3, 4}, "$[:-3:-1]": {3, 4}, "$[3:0:-2]": {1, 3}, "$[0:3:-1]": nil, "$[9:-9:-4]": {0, 4}, "$[::-9007199254740991]": {4},
		"$[-1,-2]": {3, 4}, "$[-1,-1,-9]": {4},
	} {
		for i := range 5 {
			if slices.Contains(want, i) {
				isFate(t, text, q, holds(17), i)
			} else {
				isFate(t, text, q, fails(17), i)
			}
		}
	}
	for i := range 5 {
		isFate(t, text, "$[1:4]", map[bool]hang.Fate{true: holds(0), false: no()}[i > 0 && i < 4], i)
		isFate(t, text, "$[1:9:2]", map[bool]hang.Fate{true: holds(0), false: no()}[i == 1 || i == 3], i)
		isFate(t, text, "$[-1:0:0]", no(), i)
		isFate(t, text, "$[::0]", no(), i)
		isFate(t, text, "$[0:-1:0]", no(), i)
	}
}

// P17.1: ways that hang on nothing, on one array, and on several, one within another.
func TestOnSeveralArrays(t *testing.T) {
	const text = "[1,[2,[3,4]]]" // 0 to 13, 3 to 12, 6 to 11
	isFate(t, text, "$[1][1][1]", holds(0), 1, 1, 1)
	isFate(t, text, "$[1][1][-1]", holds(11), 1, 1, 1)
	isFate(t, text, "$[1][-1][1]", holds(12), 1, 1, 1)
	isFate(t, text, "$[-1][1][1]", holds(13), 1, 1, 1)
	isFate(t, text, "$[1][-1][-1]", holds(12), 1, 1, 1)
	isFate(t, text, "$[-1][1][-1]", holds(13), 1, 1, 1)
	isFate(t, text, "$[-1][-1][1]", holds(13), 1, 1, 1)
	isFate(t, text, "$[-1][-1][-1]", holds(13), 1, 1, 1)
	isFate(t, text, "$[1][1][-2]", fails(11), 1, 1, 1)
	isFate(t, text, "$[1][-2][1]", fails(12), 1, 1, 1)
	isFate(t, text, "$[-2][1][1]", fails(13), 1, 1, 1)
	isFate(t, text, "$[-2][-1][-1]", fails(13), 1, 1, 1)
	isFate(t, text, "$[-1][-2][-1]", fails(12), 1, 1, 1)
	isFate(t, text, "$[-1][-1][-2]", fails(11), 1, 1, 1)
	isFate(t, text, "$[-2][-2][-1]", fails(12), 1, 1, 1)
	isFate(t, text, "$[-2][-1][-2]", fails(11), 1, 1, 1)
	isFate(t, text, "$[-2][-2][-2]", fails(11), 1, 1, 1)
	isFate(t, text, "$[-1][-1][0]", no(), 1, 1, 1)
	isFate(t, text, "$[0][-1][-1]", no(), 1, 1, 1)
	isFate(t, text, "$[-1][-1]", no(), 1, 1, 1)
	isFate(t, text, "$[-1][-1][-1][-1]", no(), 1, 1, 1)
}

// P17.1: of arrays some of which haven't ended: all have to for Holds, one is enough for Fails.
func TestSomeEnded(t *testing.T) {
	const text = "[1,[2,[3,4],5" // what ended is from 6 to 11
	isFate(t, text, "$[1][1][-1]", holds(11), 1, 1, 1)
	isFate(t, text, "$[1][-2][-1]", opened(), 1, 1, 1)
	isFate(t, text, "$[-1][1][-1]", opened(), 1, 1, 1)
	isFate(t, text, "$[-1][-1][-1]", opened(), 1, 1, 1)
	isFate(t, text, "$[1][1][-2]", fails(11), 1, 1, 1)
	isFate(t, text, "$[1][-2][-2]", fails(11), 1, 1, 1)
	isFate(t, text, "$[-1][1][-2]", fails(11), 1, 1, 1)
	isFate(t, text, "$[-1][-1][-2]", fails(11), 1, 1, 1)
	isFate(t, text, "$[-1][-1][1]", opened(), 1, 1, 1)
	isFate(t, text, "$[-1][-1]", opened(), 1, 1)
	isFate(t, text, "$[-1][1]", opened(), 1, 1)
	isFate(t, text+"]", "$[1][-2][-1]", holds(14), 1, 1, 1)
	isFate(t, text+"]", "$[-1][-2][-1]", opened(), 1, 1, 1)
	isFate(t, text+"]", "$[-1][-1][-1]", fails(14), 1, 1, 1)
	isFate(t, text+"]", "$[-1][-1][-2]", fails(11), 1, 1, 1)
	isFate(t, text+"]]", "$[-1][-2][-1]", holds(15), 1, 1, 1)
	isFate(t, text+"]]", "$[-2][-2][-1]", fails(15), 1, 1, 1)
	isFate(t, text+"]]", "$[-2][-1][-2]", fails(11), 1, 1, 1)
	isFate(t, "[[1],", "$[-1][-1]", opened(), 0, 0)
	isFate(t, "[[1],", "$[-1][-2]", fails(4), 0, 0)
}

// P17.1: by a Deep segment an item meets the next segment, or none.
func TestDeep(t *testing.T) {
	const text = "[[[1,2],3],4]" // 0 to 13, 1 to 10, 2 to 7
	isFate(t, text, "$..[-1]", fails(13), 0)
	isFate(t, text, "$..[-1]", holds(13), 1)
	isFate(t, text, "$..[-1]", fails(10), 0, 0)
	isFate(t, text, "$..[-1]", holds(10), 0, 1)
	isFate(t, text, "$..[-1]", fails(7), 0, 0, 0)
	isFate(t, text, "$..[-1]", holds(7), 0, 0, 1)
	isFate(t, text, "$..[0]", holds(0), 0)
	isFate(t, text, "$..[0]", no(), 1)
	isFate(t, text, "$..[0]", holds(0), 0, 0)
	isFate(t, text, "$..[0]", no(), 0, 0, 1)
	isFate(t, text, "$[0]..[-1]", no(), 0)
	isFate(t, text, "$[0]..[-1]", fails(10), 0, 0)
	isFate(t, text, "$[0]..[-1]", holds(7), 0, 0, 1)
	isFate(t, text, "$[-2]..[-1]", holds(13), 0, 0, 1)
	isFate(t, text, "$[-2]..[-2]", fails(7), 0, 0, 1)
	isFate(t, text, "$[1]..[-1]", no(), 0, 0, 1)
	isFate(t, text, "$..[-1][-1]", fails(10), 0, 0, 1)
	isFate(t, text, "$..[-2][-1]", holds(10), 0, 0, 1)
	isFate(t, text, "$..[-2][-1]", holds(13), 0, 1)
	isFate(t, text, "$..*[-1]", holds(7), 0, 0, 1)
	isFate(t, text, "$..[-1].a", no(), 0, 0, 1)
	isFate(t, "[[1,2", "$..[-1]", opened(), 0)
	isFate(t, "[[1,2", "$..[-1]", opened(), 0, 1)
	isFate(t, "[[1,2],", "$..[-1]", holds(6), 0, 1)
	isFate(t, "[[1,2],", "$..[-1]", fails(6), 0, 0)
	isFate(t, "[[1,2],", "$..[-1]", opened(), 0)
}

// P17.1: Deep behind Deep: of two ways that hold from unlike places the least counts; of two that fail the greatest.
func TestDeepBehindDeep(t *testing.T) {
	const first = "[[[1,2],3],4]" // 0 to 13, 1 to 10, 2 to 7
	isFate(t, first, "$..*..*", no(), 0)
	isFate(t, first, "$..*..*", holds(0), 0, 0)
	isFate(t, first, "$..*..*..*", holds(0), 0, 0, 0)
	isFate(t, first, "$..*..*..*", no(), 0, 0)
	isFate(t, first, "$..[-2]..[-1]", holds(10), 0, 0, 1)
	isFate(t, first, "$..[-2]..[-2]", holds(10), 0, 0, 0)
	isFate(t, first, "$..[-2]..[-2]", holds(13), 0, 0)
	isFate(t, first, "$..[-2]..*", holds(10), 0, 0, 0)
	isFate(t, first, "$..[-1]..*", fails(13), 0, 0, 0)
	isFate(t, first, "$..[-1]..[-1]", fails(13), 0, 0, 1)
	isFate(t, first, "$..[-1]..[-2]", fails(13), 0, 0, 0)
	isFate(t, first, "$..[-1]..[-1]", fails(7), 0, 0, 0)
	isFate(t, first, "$..[-1]..[-1]..[-1]", fails(10), 0, 0, 1)
	const last = "[1,[2,[3,4]]]" // 0 to 13, 3 to 12, 6 to 11
	isFate(t, last, "$..[-1]..[-1]", holds(12), 1, 1, 1)
	isFate(t, last, "$..[-1]..[-1]", holds(13), 1, 1)
	isFate(t, last, "$..[-1]..*", holds(12), 1, 1, 0)
	isFate(t, last, "$..[-1]..[1]", holds(12), 1, 1, 1)
	isFate(t, last, "$..[-1]..[-1]..[-1]", holds(13), 1, 1, 1)
	isFate(t, last, "$..[-2]..*", fails(13), 1, 1, 1)
	isFate(t, "[1,[2,[3,4]", "$..[-1]..*", opened(), 1, 1, 1)
	isFate(t, "[1,[2,[3,4]]", "$..[-1]..*", holds(12), 1, 1, 1)
	isFate(t, "[1,[2,[3,4]]", "$..[-2]..*", opened(), 1, 1, 1)
	isFate(t, "[1,[2,[3,4]]", "$..[-2]..[-2]", fails(11), 1, 1, 1)
}

// P17.1: several ways, by several selectors, or by Deep.
func TestSeveralWays(t *testing.T) {
	const text = "[[1,2],[3,4]]" // 0 to 13, 1 to 6, 7 to 12
	isFate(t, text, "$[-1,1]", holds(0), 1)
	isFate(t, text, "$[1,-1]", holds(0), 1)
	isFate(t, text, "$[-2,1]", holds(0), 1)
	isFate(t, text, "$[-1,0]", holds(0), 0)
	isFate(t, text, "$[-1,1]", fails(13), 0) // of 1 there is no possible way
	isFate(t, text, "$[-1,-2]", holds(13), 0)
	isFate(t, text, "$[-1,-2]", holds(13), 1)
	isFate(t, text, "$[-1,-3]", fails(13), 0)
	isFate(t, text, "$[-2,0][-1]", holds(6), 0, 1)
	isFate(t, text, "$[-2,0][-2]", fails(6), 0, 1)
	isFate(t, text, "$[-1,0][-1]", holds(6), 0, 1)
	isFate(t, text, "$[-1][-1,0]", fails(13), 0, 0)
	isFate(t, text, "$[-2][-1,0]", holds(13), 0, 0)
	isFate(t, text, "$[-1,0][0]", holds(0), 0, 0)
	isFate(t, text, "$[-1][-1,1]", fails(13), 0, 1)
	isFate(t, text, "$[-1,-1][-1,-1]", fails(6), 0, 0)
	isFate(t, text, "$..[0,-1]", holds(0), 0, 0)
	isFate(t, text, "$..[0,-1]", holds(6), 0, 1)
	isFate(t, text, "$..[-1]", holds(6), 0, 1)
	isFate(t, text, "$..[-1]..[-1]", holds(13), 1, 1)
	isFate(t, text, "$..[-1]..[-1]", fails(13), 0, 1)
	isFate(t, "[[1,2]", "$[-1,0][-1]", holds(6), 0, 1)
	isFate(t, "[[1,2]", "$[-1][-1,0]", opened(), 0, 0)
	isFate(t, "[[1,2]", "$[-1][-1,-2]", opened(), 0, 0)
	isFate(t, "[[1,2]", "$[-1][-1,-3]", fails(6), 0, 0)
	isFate(t, "[[1,2]", "$[0,-1][-1,-3]", fails(6), 0, 0)
	isFate(t, "[[1,2", "$[0,-1][-1,1]", holds(0), 0, 1)
	isFate(t, "[[1,2", "$[0,-1][-1]", opened(), 0, 1)
}

// P17.1: where one way fails and one is open as yet, Fails is -1; likewise where one holds.
func TestFailsAndOpen(t *testing.T) {
	isFate(t, "[[1,2],3", "$[0,-1][-1,1]", holds(0), 0, 1)
	isFate(t, "[[1,2],3", "$[-1][-2,1]", opened(), 0, 1)
	isFate(t, "[[1,2],3", "$[-1][1,-2]", opened(), 0, 1)
	isFate(t, "[[1,2],3", "$[-1][-2,-2]", fails(6), 0, 1)
	isFate(t, "[[1,2],3]", "$[-1][-2,1]", fails(9), 0, 1)
	isFate(t, "[[1,2],3]", "$[-2][-2,1]", holds(9), 0, 1)
	isFate(t, "[[1,2],3]", "$[-2][1,-2]", holds(9), 0, 1)
	isFate(t, "[[1,2],3]", "$[-1,0][-1,-2]", holds(6), 0, 1)
	isFate(t, "[[[1],2],3", "$..[-1]..*", opened(), 0, 0, 0) // by the outer array it is open, by the inner one it fails from 8
	isFate(t, "[[[1],2],3]", "$..[-1]..*", fails(11), 0, 0, 0)
	isFate(t, "[[[1],2]", "$..[-1][0]", fails(8), 0, 0, 0)
}

// P17.1: names, and all, of objects never hang, also where an object has a name twice; nor does anything else of an object.
func TestObjects(t *testing.T) {
	for _, text := range []string{`{"a":1,"b":[2],"a":3`, `{"a":1,"b":[2],"a":3}`} {
		for i, named := range []string{"a", "b", "a"} {
			isFate(t, text, "$."+named, holds(0), i)
			isFate(t, text, "$.*", holds(0), i)
			isFate(t, text, "$..*", holds(0), i)
			isFate(t, text, "$['x',*]", holds(0), i)
			isFate(t, text, "$.x", no(), i)
			isFate(t, text, "$['']", no(), i)
			isFate(t, text, map[string]string{"a": "$.b", "b": "$.a"}[named], no(), i)
			for _, q := range []string{"$[0]", "$[1]", "$[2]", "$[-1]", "$[-2]", "$[-3]", "$[:]", "$[::-1]", "$[-9:]", "$..[-1:]", "$..[::-1]"} {
				isFate(t, text, q, no(), i)
			}
			isFate(t, text, "$[-1,'"+named+"']", holds(0), i)
		}
		isFate(t, text, "$.b[-1]", holds(14), 1, 0)
		isFate(t, text, "$.b[-2]", fails(14), 1, 0)
		isFate(t, text, "$.*[0]", holds(0), 1, 0)
		isFate(t, text, "$.a[-1]", no(), 1, 0)
		isFate(t, text, "$[-1][-1]", no(), 1, 0)
		isFate(t, text, "$..[-1]", holds(14), 1, 0)
	}
	isFate(t, `[{"a":1},{"a":2}]`, "$[-1].a", fails(17), 0, 0)
	isFate(t, `[{"a":1},{"a":2}]`, "$[-1].a", holds(17), 1, 0)
	isFate(t, `[{"a":1},{"a":2}]`, "$[-1].b", no(), 1, 0)
	isFate(t, `[{"a":1},{"a":2`, "$[-1].a", opened(), 1, 0)
	isFate(t, `{"":1}`, "$['']", holds(0), 0)
	isFate(t, `{"":1}`, "$.a", no(), 0)
	isFate(t, `[1,2]`, "$['a']", no(), 0)
	isFate(t, `[1,2]`, "$['']", no(), 0)
	isFate(t, `["a","a"]`, "$['a']", no(), 0)
}

// P17.1: of a node that hasn't ended there is a Fate as of others.
func TestNodeThatHasNotEnded(t *testing.T) {
	isFate(t, "[1,[2", "$[1]", holds(0), 1)
	isFate(t, "[1,[2", "$[1][0]", holds(0), 1, 0)
	isFate(t, "[1,[2", "$[-1]", opened(), 1)
	isFate(t, "[1,[2", "$", holds(0))
	isFate(t, `{"a":"b`, "$.a", holds(0), 0)
	isFate(t, `{"a":[tr`, "$.a[-1]", opened(), 0, 0)
	isFate(t, "[[1],[2", "$[*][-1]", holds(4), 0, 0)
	isFate(t, "[[1],[2", "$[*][-1]", opened(), 1, 0)
}

// P17.1: Fates are held against one another by ==.
func TestSameFates(t *testing.T) {
	v, q := part(t, "[[1,2],[3"), parsed(t, "$[*][-1]")
	if hang.Of(v, q, 0, 1) != hang.Of(v, q, 0, 1) || hang.Of(v, q, 0, 1) == hang.Of(v, q, 0, 0) || hang.Of(v, q, 1, 0) == hang.Of(v, q, 0, 0) || hang.Of(v, q, 1, 0) == hang.Of(v, q, 1, 1) {
		t.Error("Fates aren't told apart")
	}
	seen := map[hang.Fate]bool{hang.Of(v, q, 0, 1): true, hang.Of(v, q, 0, 0): true, hang.Of(v, q, 1, 0): true, hang.Of(v, q, 0): true, hang.Of(v, q): true}
	if len(seen) != 4 || !seen[holds(6)] || !seen[fails(6)] || !seen[opened()] || !seen[no()] {
		t.Error(seen)
	}
}

// P1: selectors, values and places that are none end, and don't panic.
func TestWrongFates(t *testing.T) {
	numbers := []int{0, 1, -1, 2, api.MaxInt, api.MaxInt + 1, -api.MaxInt - 1, 1 << 62, math.MaxInt, math.MinInt, math.MinInt + 1}
	one := api.Value{Kind: api.Number, From: 1, To: 2, Text: "1"}
	values := []api.Value{{}, {Kind: -1}, {Kind: 6, Items: []api.Value{one}}, part(t, "[1,2,3"), part(t, "[1,2,3]"),
		{Kind: api.Array, To: -1, Items: []api.Value{one, one}, Names: []string{"a"}},
		{Kind: api.Array, From: math.MaxInt, To: math.MaxInt, Items: []api.Value{one, one, {}}},
		{Kind: api.Array, From: math.MinInt, To: math.MinInt, Items: []api.Value{one, {}}},
		{Kind: api.Object, To: 9, Items: []api.Value{one, {Kind: api.Object, To: 8, Items: []api.Value{one}}, one}, Names: []string{"a"}},
		{Kind: api.Object, Items: make([]api.Value, 1), Names: []string{"b", "a"}},
		{Kind: api.Object, Names: []string{"a", "a"}},
		{Kind: api.String, Items: make([]api.Value, 2), Names: []string{"a", "a"}},
		{Kind: math.MaxInt, Items: make([]api.Value, 2), Names: []string{"a", "a"}}}
	for kind := -1; kind <= 4; kind++ {
		for _, start := range numbers {
			for _, end := range numbers {
				for _, by := range numbers {
					s := api.Selector{Kind: kind, Name: "a", Index: start, Start: start, End: end, HasStart: true, HasEnd: end != 2, Stride: by}
					q := api.Query{{Deep: end > 0, Selectors: []api.Selector{s}}}
					for _, v := range values {
						for _, places := range [][]int{nil, {0}, {1}, {2}, {start}, {0, end}} {
							if f := hang.Of(v, q, places...); !f.May && f != no() || f.Holds != -1 && f.Fails != -1 {
								t.Fatalf("Of(%+v, %+v, %v) = %+v", v, q, places, f)
							}
						}
						hang.Hits(v, q, nil, q)
					}
				}
			}
		}
	}
	nameless := api.Value{Kind: api.Object, To: 9, Items: []api.Value{one}}
	if l := hang.Hits(nameless, parsed(t, "$.*")); len(l) != 1 || !slices.Equal(l[0].Steps, []api.Step{{Named: true}}) {
		t.Error(l)
	}
	for _, q := range []api.Query{{{}}, {{Deep: true}}, {{}, {}}, {{Deep: true}, {Deep: true}}} {
		for _, places := range [][]int{nil, {0}, {1}, {0, 0}} {
			if f := hang.Of(part(t, "[[1],2]"), q, places...); f != no() {
				t.Error(q, places, f)
			}
		}
		if l := hang.Hits(part(t, "[[1],2]"), q); len(l) != 0 {
			t.Error(q, l)
		}
	}
}
