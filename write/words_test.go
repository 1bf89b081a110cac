package write_test

import (
	"math"
	"slices"
	"strconv"
	"strings"
	"testing"
	"unicode/utf8"

	"riffle/api"
	"riffle/path"
	"riffle/query"
	"riffle/write"
)

// sameByWords is Same, by the chapter's words: one field after the other.
func sameByWords(a, b api.Query) bool {
	if len(a) != len(b) {
		return false
	}
	for i := range a {
		if a[i].Deep != b[i].Deep || len(a[i].Selectors) != len(b[i].Selectors) {
			return false
		}
		for j, s := range a[i].Selectors {
			o := b[i].Selectors[j]
			if s.Kind != o.Kind || s.Name != o.Name || s.Index != o.Index || s.Start != o.Start || s.End != o.End || s.HasStart != o.HasStart || s.HasEnd != o.HasEnd || s.Stride != o.Stride {
				return false
			}
		}
	}
	return true
}

// ofByWords is Of of right steps, by the chapter's words.
func ofByWords(l []api.Step) api.Query {
	var q api.Query
	for _, s := range l {
		if s.Named {
			q = append(q, of(name(s.Name)))
		} else {
			q = append(q, of(index(s.Index)))
		}
	}
	return q
}

// selectorByWords is Selector, by the chapter's words; whether the selector is right is told, too.
func selectorByWords(s api.Selector) (string, bool) {
	in := func(l ...int) bool {
		return !slices.ContainsFunc(l, func(n int) bool { return n > 1<<53-1 || n < -(1<<53-1) })
	}
	none := s.Start == 0 && s.End == 0 && !s.HasStart && !s.HasEnd && s.Stride == 0
	switch s.Kind {
	case 0:
		return path.Name(s.Name), utf8.ValidString(s.Name) && s.Index == 0 && none
	case 1:
		return "*", s.Name == "" && s.Index == 0 && none
	case 2:
		return strconv.Itoa(s.Index), s.Name == "" && in(s.Index) && none
	case 3:
		text := strconv.Itoa(s.Start) + ":" + strconv.Itoa(s.End) + ":" + strconv.Itoa(s.Stride)
		parts := strings.Split(text, ":")
		if !s.HasStart {
			parts[0] = ""
		}
		if !s.HasEnd {
			parts[1] = ""
		}
		if s.Stride == 1 {
			parts = parts[:2]
		}
		right := s.Name == "" && s.Index == 0 && in(s.Start, s.End, s.Stride) && (s.HasStart || s.Start == 0) && (s.HasEnd || s.End == 0)
		return strings.Join(parts, ":"), right
	}
	return "", false
}

// textByWords is Text, by the chapter's words; whether the query is right is told, too.
func textByWords(q api.Query) (string, bool) {
	text := "$"
	for _, g := range q {
		if g.Deep {
			text += ".."
		}
		var l []string
		for _, s := range g.Selectors {
			one, ok := selectorByWords(s)
			if !ok {
				return "", false
			}
			l = append(l, one)
		}
		if len(l) == 0 {
			return "", false
		}
		text += "[" + strings.Join(l, ",") + "]"
	}
	return text, true
}

// fields calls with selectors whose fields are all of some values.
func fields(call func(api.Selector)) {
	numbers := []int{0, 1, -1, 1<<53 - 1, -1<<53 + 1, 1 << 53, -1 << 53}
	flags := []bool{false, true}
	for kind := -1; kind <= 4; kind++ {
		for _, text := range []string{"", "a", "\xff"} {
			for _, i := range []int{0, 2, -1<<53 + 1, 1 << 53} {
				for _, start := range numbers {
					for _, end := range numbers {
						for _, stride := range numbers {
							for _, hasStart := range flags {
								for _, hasEnd := range flags {
									call(api.Selector{Kind: kind, Name: text, Index: i, Start: start, End: end, HasStart: hasStart, HasEnd: hasEnd, Stride: stride})
								}
							}
						}
					}
				}
			}
		}
	}
}

// P15.1, P15.2: Right, Selector and Text of selectors with fields of all kinds, by the chapter's words.
func TestFields(t *testing.T) {
	many := 0
	fields(func(s api.Selector) {
		want, right := selectorByWords(s)
		if !right {
			want = ""
		}
		if got := write.Selector(s); got != want {
			t.Fatalf("Selector(%+v) = %q, want %q", s, got, want)
		}
		q := api.Query{of(any, s)}
		if got := write.Right(q); got != right {
			t.Fatalf("Right of %+v = %v", s, got)
		}
		if !right {
			if write.Text(q) != "" {
				t.Fatalf("Text of %+v = %q, want none", s, write.Text(q))
			}
			return
		}
		many++
		isRight(t, q, "$[*,"+want+"]")
	})
	if many != 2+1+3+6*6*5 {
		t.Fatalf("only %d of them are right", many)
	}
}

// small calls with all queries of up to some segments, of up to some selectors out of a few, Deep and not.
func small(segments, selectors int, few []api.Selector, call func(api.Query)) {
	var lists [][]api.Selector
	var more func(l []api.Selector)
	more = func(l []api.Selector) {
		lists = append(lists, l)
		for _, s := range few {
			if len(l) < selectors {
				more(append(slices.Clone(l), s))
			}
		}
	}
	more(nil)
	var longer func(q api.Query)
	longer = func(q api.Query) {
		call(q)
		for _, l := range lists {
			for _, deep := range []bool{false, true} {
				if len(q) < segments {
					longer(append(slices.Clone(q), api.Segment{Deep: deep, Selectors: l}))
				}
			}
		}
	}
	longer(nil)
}

// P15.1, P15.2: all small queries, by the chapter's words: Right, Text, and what is read of it.
func TestSmallQueries(t *testing.T) {
	few := []api.Selector{{}, any, index(-1), from(0, stride(1)), to(2, stride(-3)), index(1 << 53)}
	small(2, 2, few, func(q api.Query) {
		if want, right := textByWords(q); right {
			isRight(t, q, want)
		} else {
			isWrong(t, q)
		}
		if c := write.Clone(q); !sameByWords(c, q) || !write.Same(c, q) || !write.Same(q, c) {
			t.Fatalf("Clone(%+v) = %+v", q, c)
		}
	})
	small(4, 1, few[:2], func(q api.Query) {
		if want, right := textByWords(q); right {
			isRight(t, q, want)
		} else {
			isWrong(t, q)
		}
	})
}

// P15.1: Same of all pairs of small queries, right and not: those that are one, and no others.
func TestSamePairs(t *testing.T) {
	var all []api.Query
	small(2, 2, []api.Selector{any, index(1)}, func(q api.Query) { all = append(all, q) })
	small(3, 1, []api.Selector{{Kind: 9}}, func(q api.Query) { all = append(all, q) })
	for _, a := range all {
		for _, b := range all {
			if got := write.Same(a, b); got != sameByWords(a, b) {
				t.Fatalf("Same(%+v, %+v) = %v", a, b, got)
			}
		}
	}
}

// P15.3: Of of all short lists of steps, right and not: Put of them is its Text.
func TestShortSteps(t *testing.T) {
	few := []api.Step{named(""), named("a'"), at(0), at(31), at(-1), {Name: "a"}, named("\x80")}
	var more func(l []api.Step)
	more = func(l []api.Step) {
		q, want := write.Of(l...), path.Put(l...)
		if want == "" {
			if len(q) != 0 {
				t.Fatalf("Of(%+v) = %+v, want none", l, q)
			}
		} else if write.Text(q) != want || !sameByWords(q, ofByWords(l)) {
			t.Fatalf("Of(%+v) = %+v", l, q)
		}
		for _, s := range few {
			if len(l) < 4 {
				more(append(slices.Clone(l), s))
			}
		}
	}
	more(nil)
}

// pieces are what texts of queries are made of, some of them.
var pieces = []string{"[", "]", ",", "..", ".", "*", "a", "'b'", `"\n"`, "0", "-1", ":", " "}

// P15.2: of each short row of pieces that is a query's text, Text is read as the same query, and is its own Text.
func TestShortTexts(t *testing.T) {
	many := 0
	var more func(s string, left int)
	more = func(s string, left int) {
		if q, ok := query.Parse(s); ok {
			many++
			want, right := textByWords(q)
			if !right {
				t.Fatalf("Parse(%q) = %+v, which isn't right", s, q)
			}
			isRight(t, q, want)
		}
		for _, p := range pieces {
			if left > 0 {
				more(s+p, left-1)
			}
		}
	}
	more("$", 6)
	if many < 1500 {
		t.Fatalf("only %d of them are queries", many)
	}
}

// P1: calls end at arguments that are far off, and answer what the chapter says of them.
func TestFarOff(t *testing.T) {
	for _, n := range []int{math.MinInt, math.MinInt + 1, math.MaxInt, 1 << 62, -1 << 62} {
		s := api.Selector{Kind: n, Name: "\xff\x00", Index: n, Start: n, End: n, HasStart: true, HasEnd: true, Stride: n}
		for kind := -3; kind <= 6; kind++ {
			q := api.Query{of(s, any)}
			isWrong(t, q)
			if write.Selector(s) != "" || !write.Same(q, write.Clone(q)) || write.Same(q, api.Query{of(any, s)}) {
				t.Fatalf("%+v", s)
			}
			s.Kind = kind
		}
		if len(write.Of(api.Step{Index: n}, api.Step{Named: true, Index: n})) != 0 {
			t.Fatal("Of of wrong steps")
		}
	}
}
