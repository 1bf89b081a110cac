package write_test

import (
	"slices"
	"strings"
	"testing"

	"riffle/api"
	"riffle/path"
	"riffle/query"
	"riffle/write"
)

// base is a query of several segments, with several selectors.
func base() api.Query {
	return api.Query{of(name("a"), index(1)), below(any, from(1, to(2, stride(3))), name("b")), of(index(-4))}
}

// changes has what may be changed in base, one thing alone each time.
func changes() map[string]func(q api.Query) api.Query {
	m := map[string]func(q api.Query) api.Query{
		"Deep of the first segment":   func(q api.Query) api.Query { q[0].Deep = true; return q },
		"Deep of the middle segment":  func(q api.Query) api.Query { q[1].Deep = false; return q },
		"Deep of the last segment":    func(q api.Query) api.Query { q[2].Deep = true; return q },
		"a segment less":              func(q api.Query) api.Query { return q[:2] },
		"the first segment less":      func(q api.Query) api.Query { return q[1:] },
		"a segment more":              func(q api.Query) api.Query { return append(q, of(any)) },
		"an empty segment more":       func(q api.Query) api.Query { return append(q, of()) },
		"an empty segment ahead":      func(q api.Query) api.Query { return append(api.Query{of()}, q...) },
		"a selector less":             func(q api.Query) api.Query { q[1].Selectors = q[1].Selectors[:2]; return q },
		"the first selector less":     func(q api.Query) api.Query { q[0].Selectors = q[0].Selectors[1:]; return q },
		"a selector more":             func(q api.Query) api.Query { q[2].Selectors = append(q[2].Selectors, any); return q },
		"a zero selector more":        func(q api.Query) api.Query { q[2].Selectors = append(q[2].Selectors, api.Selector{}); return q },
		"no selectors":                func(q api.Query) api.Query { q[2].Selectors = nil; return q },
		"segments the other way":      func(q api.Query) api.Query { q[0], q[2] = q[2], q[0]; return q },
		"selectors the other way":     func(q api.Query) api.Query { slices.Reverse(q[1].Selectors); return q },
		"two selectors the other way": func(q api.Query) api.Query { slices.Reverse(q[0].Selectors); return q },
		"nothing is left":             func(q api.Query) api.Query { return nil },
	}
	for what, change := range fieldChanges() {
		for i := range base() {
			for j := range base()[i].Selectors {
				m[what+" of "+decimal(i)+", "+decimal(j)] = func(q api.Query) api.Query {
					change(&q[i].Selectors[j])
					return q
				}
			}
		}
	}
	return m
}

// fieldChanges has what may be changed in a selector, one field alone each time.
func fieldChanges() map[string]func(s *api.Selector) {
	return map[string]func(s *api.Selector){
		"Kind":     func(s *api.Selector) { s.Kind += 4 },
		"Name":     func(s *api.Selector) { s.Name += "\xff" },
		"Index":    func(s *api.Selector) { s.Index = -s.Index - 1 },
		"Start":    func(s *api.Selector) { s.Start += 1 << 32 },
		"End":      func(s *api.Selector) { s.End-- },
		"HasStart": func(s *api.Selector) { s.HasStart = !s.HasStart },
		"HasEnd":   func(s *api.Selector) { s.HasEnd = !s.HasEnd },
		"Stride":   func(s *api.Selector) { s.Stride++ },
	}
}

// P15.1: Same and Clone of queries that differ in one thing alone.
func TestOneChange(t *testing.T) {
	if !write.Same(base(), base()) {
		t.Fatal("base isn't the same as itself")
	}
	for what, change := range changes() {
		q := change(base())
		if write.Same(q, base()) || write.Same(base(), q) {
			t.Fatalf("Same, with %s", what)
		}
		if !write.Same(q, change(base())) || !sameByWords(write.Clone(q), q) {
			t.Fatalf("not the same as itself, with %s", what)
		}
	}
}

// P15.1: of Same, a query's beginning isn't the query; nil lists and empty ones are one.
func TestSame(t *testing.T) {
	q := base()
	for i := range q {
		if write.Same(q, q[:i]) || write.Same(q[:i], q) || !write.Same(q[:i], base()[:i]) {
			t.Fatalf("the first %d segments", i)
		}
	}
	if !write.Same(nil, nil) || !write.Same(nil, api.Query{}) || !write.Same(api.Query{}, nil) || write.Same(nil, api.Query{of()}) || write.Same(api.Query{of()}, nil) {
		t.Fatal("none")
	}
	a, b := api.Query{{Deep: true}}, api.Query{{Deep: true, Selectors: []api.Selector{}}}
	if !write.Same(a, b) || !write.Same(b, a) || write.Same(a, api.Query{of()}) || write.Same(a, api.Query{below(api.Selector{})}) || write.Same(api.Query{below(api.Selector{})}, a) {
		t.Fatal("a segment without selectors")
	}
	for _, s := range wrongs() { // whether they are right isn't asked
		if !write.Same(api.Query{of(s)}, api.Query{of(s)}) || write.Same(api.Query{of(s)}, api.Query{of(any)}) {
			t.Fatalf("Same of %+v", s)
		}
	}
}

// P15.1: what is changed in a query isn't in its Clone, nor the other way.
func TestCloneApart(t *testing.T) {
	for what, change := range changes() {
		q := base()
		c := write.Clone(q)
		change(q)
		if !sameByWords(c, base()) {
			t.Fatalf("the clone has changed with its query: %s", what)
		}
		q = base()
		c = write.Clone(q)
		change(c)
		if !sameByWords(q, base()) {
			t.Fatalf("the query has changed with its clone: %s", what)
		}
	}
}

// copied is a query's copy, list by list.
func copied(q api.Query) api.Query {
	var c api.Query
	for _, g := range q {
		c = append(c, api.Segment{Deep: g.Deep, Selectors: slices.Concat(g.Selectors)})
	}
	return c
}

// spoil writes over all lists of a query, spare room included.
func spoil(q api.Query) {
	q = q[:cap(q)]
	for i := range q {
		l := q[i].Selectors[:cap(q[i].Selectors)]
		for j := range l {
			l[j] = api.Selector{Kind: 99, Name: "spoilt"}
		}
		q[i] = api.Segment{Deep: !q[i].Deep, Selectors: []api.Selector{{Kind: 98}}}
	}
}

// roomy is a query all of whose lists have spare room, and stand in one piece of memory.
func roomy() api.Query {
	selectors := make([]api.Selector, 30)
	for i := range selectors {
		selectors[i] = index(i)
	}
	all := make(api.Query, 8)
	for i := range all {
		all[i] = api.Segment{Deep: i%2 == 1, Selectors: selectors[i : i+i%4]}
	}
	return all[1:6]
}

// P15.1 and the rules: a Clone shares nothing with its query, nor do two lists of it, spare room included.
func TestCloneMemory(t *testing.T) {
	for _, fresh := range []func() api.Query{base, roomy, func() api.Query { return nil }, func() api.Query { return roomy()[:0] }, func() api.Query { return api.Query{of(), {Selectors: roomy()[0].Selectors[:0]}, below()} }} {
		q := fresh()
		c := write.Clone(q)
		if !sameByWords(c, fresh()) || !sameByWords(q, fresh()) {
			t.Fatalf("Clone(%+v) = %+v", q, c)
		}
		spoil(q)
		if !sameByWords(c, fresh()) {
			t.Fatal("the clone has changed with its query's lists")
		}
		q = fresh()
		around := copied(q[:cap(q)])
		spoil(write.Clone(q))
		if !sameByWords(q, fresh()) || !sameByWords(q[:cap(q)], around) {
			t.Fatal("the query has changed with its clone's lists")
		}
		apart(t, write.Clone(q))
	}
}

// apart tells whether no two lists of a query share memory, spare room included.
func apart(t *testing.T, q api.Query) {
	t.Helper()
	for i := range q {
		before := copied(q)
		l := q[i].Selectors[:cap(q[i].Selectors)]
		for j := range l {
			l[j] = api.Selector{Kind: 99}
		}
		for k := range q {
			if k != i && !sameByWords(q[k:k+1], before[k:k+1]) {
				t.Fatalf("segment %d has changed with segment %d", k, i)
			}
		}
	}
}

// P15.3 and the rules: what Of answers is new memory, no two lists of it share any, and its steps are not kept or changed.
func TestOfMemory(t *testing.T) {
	fresh := func() []api.Step { return []api.Step{named("a"), at(1), named("b"), at(2), at(-9), named("rest")} }
	all := fresh()
	q := write.Of(all[:4]...)
	if !slices.Equal(all, fresh()) {
		t.Fatal("the steps have changed")
	}
	for i := range all {
		all[i] = named("spoilt")
	}
	if write.Text(q) != "$['a'][1]['b'][2]" {
		t.Fatalf("the query has changed with its steps: %s", write.Text(q))
	}
	other := write.Of(fresh()[:4]...)
	spoil(other)
	if write.Text(q) != "$['a'][1]['b'][2]" {
		t.Fatal("the query has changed with another one")
	}
	apart(t, q)
}

// The rules: no call changes what it is given, spare room included.
func TestArguments(t *testing.T) {
	for _, q := range []api.Query{base(), roomy(), {of(wrongs()...)}, {of(), below()}} {
		whole := q[:cap(q)]
		before := copied(whole)
		write.Right(q)
		write.Text(q)
		write.Same(q, q)
		write.Same(q, base())
		write.Clone(q)
		for _, g := range q {
			for _, s := range g.Selectors {
				write.Selector(s)
			}
		}
		if !sameByWords(whole, before) {
			t.Fatalf("%+v has become %+v", before, whole)
		}
	}
}

// P2: each call stands alone: whatever was asked ahead of it, it answers the same.
func TestAgain(t *testing.T) {
	for range 3 {
		for want, s := range rights() {
			if write.Selector(s) != want || write.Text(api.Query{below(s)}) != "$..["+want+"]" {
				t.Fatalf("%+v", s)
			}
			isWrong(t, api.Query{of(s), of()})
		}
		for want, l := range steps() {
			if write.Text(write.Of(l...)) != want || len(write.Of(append(slices.Clone(l), at(-1))...)) != 0 {
				t.Fatalf("%+v", l)
			}
		}
	}
}

// P1: long queries, long lists of selectors, long names and many steps take no longer than they are.
func TestLong(t *testing.T) {
	const many = 300000
	var long, wide api.Query
	var l []api.Step
	wide = append(wide, below())
	for i := range many {
		long = append(long, api.Segment{Deep: i%3 == 0, Selectors: []api.Selector{index(i)}})
		wide[0].Selectors = append(wide[0].Selectors, index(-i))
		l = append(l, at(i))
	}
	for _, q := range []api.Query{long, wide, {of(name(strings.Repeat("'\u20ac\n", many)))}} {
		text := write.Text(q)
		p, ok := query.Parse(text)
		if !ok || !write.Same(p, q) || !write.Same(write.Clone(q), q) || !write.Right(q) {
			t.Fatalf("a text of %d bytes", len(text))
		}
		c := write.Clone(q)
		c = append(c, of(any, api.Selector{Kind: -1}))
		if isWrong(t, c); write.Same(c, q) {
			t.Fatal("a long query with something more")
		}
	}
	if q := write.Of(l...); write.Text(q) != path.Put(l...) || len(q) != many {
		t.Fatal("many steps")
	}
	if l[many-1].Index = -1; len(write.Of(l...)) != 0 {
		t.Fatal("many steps, the last one not right")
	}
}
