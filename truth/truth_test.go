package truth_test

import (
	"math"
	"slices"
	"testing"

	"riffle/truth"
)

// all are the three values, and names their words.
var (
	all   = []int{truth.Unknown, truth.True, truth.False}
	names = []string{"Unknown", "True", "False"}
)

// strange are numbers that are none of a book's, whatever few things it has.
var strange = []int{-1, -2, math.MinInt, math.MinInt32, 1 << 20, math.MaxInt32, 1 << 40, math.MaxInt}

// both and one are what And and Or make of two values, in their order.
var (
	both = [3][3]int{
		truth.Unknown: {truth.Unknown, truth.Unknown, truth.False},
		truth.True:    {truth.Unknown, truth.True, truth.False},
		truth.False:   {truth.False, truth.False, truth.False},
	}
	one = [3][3]int{
		truth.Unknown: {truth.Unknown, truth.True, truth.Unknown},
		truth.True:    {truth.True, truth.True, truth.True},
		truth.False:   {truth.Unknown, truth.True, truth.False},
	}
)

// has tells whether a thing has a value.
func has(t *testing.T, b *truth.Book, what string, x, want int) {
	t.Helper()
	if got := b.Value(x); got != want {
		t.Errorf("%s, thing %d: Value = %d, want %s", what, x, got, names[want])
	}
}

// set sets a Var's thing, which must be allowed.
func set(t *testing.T, b *truth.Book, x int, yes bool) {
	t.Helper()
	if !b.Set(x, yes) {
		t.Errorf("Set(%d, %v) = false", x, yes)
	}
}

// give lets a Var's thing have a value: it is Set to that, or left Unknown.
func give(t *testing.T, b *truth.Book, x, value int) {
	t.Helper()
	if value != truth.Unknown {
		set(t, b, x, value == truth.True)
	}
}

// values are all of a book's values, with those of some numbers around.
func values(b *truth.Book) []int {
	l := make([]int, 0, b.Len()+4)
	for x := -2; x < b.Len()+2; x++ {
		l = append(l, b.Value(x))
	}
	return l
}

// refuses tells that Set answers false for a number, and changes nothing.
func refuses(t *testing.T, b *truth.Book, what string, x int) {
	t.Helper()
	was := values(b)
	for _, yes := range []bool{true, false, true} {
		if b.Set(x, yes) {
			t.Errorf("%s: Set(%d, %v) = true", what, x, yes)
		}
		if now := values(b); !slices.Equal(now, was) {
			t.Fatalf("%s: Set(%d, %v) made %v of %v", what, x, yes, now, was)
		}
	}
}

// The values are the numbers that the chapter tells.
func TestConstants(t *testing.T) {
	if truth.Unknown != 0 || truth.True != 1 || truth.False != 2 {
		t.Error(truth.Unknown, truth.True, truth.False)
	}
}

// P18.1: a new book has two things, and their values stay.
func TestNew(t *testing.T) {
	b := truth.New()
	fixed := func(what string) {
		t.Helper()
		if x, y := b.No(), b.Yes(); x == y || min(x, y) != 0 || max(x, y) != 1 {
			t.Errorf("%s: No = %d, Yes = %d", what, x, y)
		}
		has(t, b, what+", No", b.No(), truth.False)
		has(t, b, what+", Yes", b.Yes(), truth.True)
	}
	fixed("at first")
	if b.Len() != 2 {
		t.Error("Len", b.Len())
	}
	x, y := b.Var(), b.Var()
	fixed("with Vars")
	b.And(x, b.No())
	b.And(x, b.Yes())
	b.Or(x, y, b.Yes())
	b.Or(x, b.No())
	fixed("with And and Or")
	b.Set(b.No(), true)
	b.Set(b.Yes(), false)
	fixed("behind Sets of these")
	b.Set(x, false)
	b.Set(y, true)
	fixed("behind Sets")
}

// P18.1, P2: two books know nothing of one another.
func TestBooksApart(t *testing.T) {
	a, b := truth.New(), truth.New()
	x, y := a.Var(), a.Var()
	z := a.And(x, y)
	if b.Len() != 2 {
		t.Fatal("Len of the other", b.Len())
	}
	for n := range 8 {
		want := truth.False
		if n == b.Yes() {
			want = truth.True
		}
		has(t, b, "the other", n, want)
	}
	refuses(t, b, "the other's", x)
	p, q := b.Var(), b.Var()
	r := b.Or(p, q)
	if p != x || q != y || r != z {
		t.Fatal("numbers", p, x, q, y, r, z)
	}
	set(t, a, x, false)
	has(t, a, "set here", x, truth.False)
	has(t, a, "set here", z, truth.False)
	has(t, b, "set there", p, truth.Unknown)
	has(t, b, "set there", r, truth.Unknown)
	set(t, b, p, true)
	has(t, a, "set here", x, truth.False)
	has(t, b, "set there", p, truth.True)
	has(t, b, "set there", r, truth.True)
	a.Var()
	if a.Len() != 6 || b.Len() != 5 {
		t.Error("Len", a.Len(), b.Len())
	}
}

// P18.1, P18.3: each Var is another thing, the next number, Unknown until it is Set.
func TestVar(t *testing.T) {
	b := truth.New()
	var vars []int
	for n := range 100 {
		x := b.Var()
		if x != n+2 || b.Len() != n+3 {
			t.Fatalf("Var %d = %d, Len = %d", n, x, b.Len())
		}
		vars = append(vars, x)
		for _, y := range vars {
			has(t, b, "not Set", y, truth.Unknown)
		}
	}
	for n, x := range vars {
		set(t, b, x, n%3 == 0)
		for m, y := range vars {
			want := truth.Unknown
			if m <= n && m%3 == 0 {
				want = truth.True
			} else if m <= n {
				want = truth.False
			}
			has(t, b, "some Set", y, want)
		}
	}
}

// P18.1: Set is true once for a Var's thing, and false, changing nothing, for
// one that was Set, to the same value and to the other one.
func TestSetOnce(t *testing.T) {
	for _, yes := range []bool{true, false} {
		b := truth.New()
		x, y := b.Var(), b.Var()
		a, o := b.And(x, y), b.Or(x, y)
		set(t, b, x, yes)
		want := truth.False
		if yes {
			want = truth.True
		}
		has(t, b, "Set", x, want)
		has(t, b, "not Set", y, truth.Unknown)
		has(t, b, "And", a, both[want][truth.Unknown])
		has(t, b, "Or", o, one[want][truth.Unknown])
		refuses(t, b, "Set already", x)
		set(t, b, y, !yes)
		has(t, b, "Set", x, want)
		refuses(t, b, "Set already, and another", x)
		refuses(t, b, "Set already, to the other value", y)
		if b.Len() != 6 {
			t.Error("Len", b.Len())
		}
	}
}

// P18.1: Set is false, and changes nothing, for what isn't a Var's.
func TestSetRefuses(t *testing.T) {
	b := truth.New()
	x, y, z := b.Var(), b.Var(), b.Var()
	a, o := b.And(x, y), b.Or(x, y)
	deep, wide := b.And(a, o), b.Or(a, z, o)
	made := map[string]int{"And": a, "Or": o, "And of both": deep, "Or of three": wide}
	check := func(when string) {
		t.Helper()
		refuses(t, b, when+": No", b.No())
		refuses(t, b, when+": Yes", b.Yes())
		for what, n := range made {
			refuses(t, b, when+": "+what, n)
		}
		for n := b.Len(); n < b.Len()+5; n++ {
			refuses(t, b, when+": from Len on", n)
		}
		for _, n := range strange {
			refuses(t, b, when+": strange", n)
		}
	}
	check("none Set")
	set(t, b, x, true)
	check("x Set")
	set(t, b, y, true)
	check("x and y Set")
	set(t, b, z, false)
	check("all Set")
	for _, n := range []int{a, o, deep, wide} {
		has(t, b, "in the end", n, truth.True)
	}
}

// P18.1: what a refused Set leaves can be Set still, and a number refused once
// may be Set when a Var has it.
func TestSetLater(t *testing.T) {
	b := truth.New()
	n := b.Len()
	refuses(t, b, "no thing as yet", n)
	if x := b.Var(); x != n {
		t.Fatal(x, n)
	}
	has(t, b, "now a thing", n, truth.Unknown)
	set(t, b, n, true)
	has(t, b, "now Set", n, truth.True)
}

// P18.2: And and Or of all pairs of values, in both orders, of things that are
// Set ahead of it and behind it.
func TestPairs(t *testing.T) {
	for _, v := range all {
		for _, w := range all {
			for early := range 4 {
				b := truth.New()
				x, y := b.Var(), b.Var()
				if early&1 != 0 {
					give(t, b, x, v)
				}
				if early&2 != 0 {
					give(t, b, y, w)
				}
				l := []int{b.And(x, y), b.And(y, x), b.Or(x, y), b.Or(y, x)}
				if early&1 == 0 {
					give(t, b, x, v)
				}
				if early&2 == 0 {
					give(t, b, y, w)
				}
				what := names[v] + " and " + names[w]
				has(t, b, "And, "+what, l[0], both[v][w])
				has(t, b, "And turned, "+what, l[1], both[v][w])
				has(t, b, "Or, "+what, l[2], one[v][w])
				has(t, b, "Or turned, "+what, l[3], one[v][w])
			}
		}
	}
}

// P18.2: And and Or of a Var and what is fixed, in both orders, at each time.
func TestFixed(t *testing.T) {
	for _, v := range all {
		b := truth.New()
		x := b.Var()
		never := []int{b.And(x, b.No()), b.And(b.No(), x)}
		always := []int{b.Or(x, b.Yes()), b.Or(b.Yes(), x)}
		like := []int{b.And(x, b.Yes()), b.And(b.Yes(), x), b.Or(x, b.No()), b.Or(b.No(), x)}
		check := func(when string, value int) {
			t.Helper()
			for _, n := range never {
				has(t, b, when+": And with No", n, truth.False)
			}
			for _, n := range always {
				has(t, b, when+": Or with Yes", n, truth.True)
			}
			for _, n := range like {
				has(t, b, when+": as x is", n, value)
			}
		}
		check("ahead of Set", truth.Unknown)
		give(t, b, x, v)
		check("behind Set", v)
	}
	b := truth.New()
	no, yes := b.No(), b.Yes()
	has(t, b, "No and No", b.And(no, no), truth.False)
	has(t, b, "No and Yes", b.And(no, yes), truth.False)
	has(t, b, "Yes and No", b.And(yes, no), truth.False)
	has(t, b, "Yes and Yes", b.And(yes, yes), truth.True)
	has(t, b, "No or No", b.Or(no, no), truth.False)
	has(t, b, "No or Yes", b.Or(no, yes), truth.True)
	has(t, b, "Yes or No", b.Or(yes, no), truth.True)
	has(t, b, "Yes or Yes", b.Or(yes, yes), truth.True)
}

// P18.2: And and Or of a thing with itself have its value at all times.
func TestItself(t *testing.T) {
	for _, v := range all {
		b := truth.New()
		x, y := b.Var(), b.Var()
		a := b.And(x, y)
		l := []int{b.And(x, x), b.Or(x), b.Or(x, x), b.Or(x, x, x, x), b.And(a, a), b.Or(a), b.Or(a, a, a)}
		for _, n := range l {
			has(t, b, "ahead", n, truth.Unknown)
		}
		give(t, b, x, v)
		for i, n := range l {
			want := v
			if i > 3 {
				want = both[v][truth.Unknown]
			}
			has(t, b, "x is "+names[v], n, want)
		}
		set(t, b, y, true)
		for _, n := range l {
			has(t, b, "y is True, x "+names[v], n, v)
		}
		for _, n := range []int{b.And(x, x), b.Or(x), b.Or(x, x), b.And(a, a), b.Or(a, a)} {
			has(t, b, "behind, x is "+names[v], n, v)
		}
	}
}

// P18.2: Or of none, of one, of two and of many.
func TestOrMany(t *testing.T) {
	b := truth.New()
	has(t, b, "none", b.Or(), truth.False)
	has(t, b, "none, an empty list", b.Or([]int{}...), truth.False)
	has(t, b, "none, nil", b.Or(nil...), truth.False)
	for many := 1; many <= 40; many++ {
		for first := range many + 1 {
			b := truth.New()
			var l []int
			for range many {
				l = append(l, b.Var())
			}
			o := b.Or(l...)
			// Set to false up to the first one that is true, of the last on.
			for n, x := range slices.Backward(l) {
				has(t, b, "not all known", o, truth.Unknown)
				set(t, b, x, n == first)
				if n == first {
					break
				}
			}
			want := truth.False
			if first < many {
				want = truth.True
			}
			has(t, b, "known", o, want)
			if first == many {
				continue
			}
			for _, x := range l[:first] {
				set(t, b, x, x%2 == 0)
				has(t, b, "known still", o, want)
			}
		}
	}
}

// P18.2: a number that is none of the book's counts as No, also if it becomes a
// thing later.
func TestStrange(t *testing.T) {
	for _, n := range strange {
		b := truth.New()
		x := b.Var()
		has(t, b, "Value", n, truth.False)
		has(t, b, "And", b.And(x, n), truth.False)
		has(t, b, "And turned", b.And(n, x), truth.False)
		has(t, b, "And of Yes", b.And(b.Yes(), n), truth.False)
		has(t, b, "And of it", b.And(n, n), truth.False)
		has(t, b, "Or", b.Or(n), truth.False)
		has(t, b, "Or with No", b.Or(n, b.No(), n), truth.False)
		has(t, b, "Or with Yes", b.Or(n, b.Yes()), truth.True)
		o := b.Or(n, x, n)
		has(t, b, "Or with a Var", o, truth.Unknown)
		set(t, b, x, false)
		has(t, b, "Or with a Var, Set", o, truth.False)
	}
}

// P18.2: such a number counts as No in what was made ahead, when it is a thing.
func TestStrangeLater(t *testing.T) {
	for ahead := range 4 {
		b := truth.New()
		x := b.Var()
		n := b.Len() + 6 + ahead // more than And and Or below add
		a, o, alone := b.And(b.Yes(), n), b.Or(x, n), b.Or(n)
		turned := b.And(n, b.Yes())
		for b.Len() <= n {
			b.Var()
		}
		has(t, b, "now a thing", n, truth.Unknown)
		check := func(when string) {
			t.Helper()
			has(t, b, when+": And", a, truth.False)
			has(t, b, when+": And turned", turned, truth.False)
			has(t, b, when+": Or", o, truth.Unknown)
			has(t, b, when+": Or alone", alone, truth.False)
		}
		check("a thing")
		set(t, b, n, true)
		check("Set to true")
		has(t, b, "And from now on", b.And(b.Yes(), n), truth.True)
		has(t, b, "Or from now on", b.Or(n), truth.True)
		set(t, b, x, false)
		has(t, b, "Or", o, truth.False)
	}
}

// P18.2: the number that And or Or answers itself is none of the book's ahead of it.
func TestStrangeNext(t *testing.T) {
	b := truth.New()
	x, y := b.Var(), b.Var()
	n := b.Len()
	o := b.Or(x, y, n, n+1)
	has(t, b, "Or with what comes next", o, truth.Unknown)
	a := b.And(b.Or(x, y), b.Len())
	has(t, b, "And with what comes next", a, truth.False)
	set(t, b, x, false)
	has(t, b, "Or, one Set", o, truth.Unknown)
	set(t, b, y, false)
	has(t, b, "Or, both Set", o, truth.False)
}

// P18.2: the list that Or is given is not changed, spare room included, and may
// be written over.
func TestListStaysTheCallers(t *testing.T) {
	b := truth.New()
	x, y, z := b.Var(), b.Var(), b.Var()
	room := []int{z, b.No(), x, 99, y, x, z, b.Yes(), b.Yes(), -7, 12, x}
	was := slices.Clone(room)
	l := room[:7]
	o := b.Or(l...)
	if !slices.Equal(room, was) {
		t.Fatal("the list", room)
	}
	for i := range room {
		room[i] = b.Yes()
	}
	has(t, b, "written over with Yes", o, truth.Unknown)
	for i := range room {
		room[i] = b.No()
	}
	set(t, b, x, false)
	set(t, b, y, false)
	has(t, b, "written over with No", o, truth.Unknown)
	set(t, b, z, true)
	has(t, b, "the last one", o, truth.True)
}

// P18.2: Ands and Ors one within another are known as soon as the last one is
// that they hang on.
func TestWithin(t *testing.T) {
	b := truth.New()
	x, y, z := b.Var(), b.Var(), b.Var()
	two := b.Or(b.And(x, y), b.And(y, z), b.And(x, z)) // of three
	every := b.And(b.And(x, y), z)
	some := b.Or(b.Or(x, y), z)
	nest := b.And(b.Or(x, b.And(y, z)), b.Or(y, z))
	check := func(when string, wants ...int) {
		t.Helper()
		for i, n := range []int{two, every, some, nest} {
			has(t, b, when, n, wants[i])
		}
	}
	check("none", truth.Unknown, truth.Unknown, truth.Unknown, truth.Unknown)
	set(t, b, y, true)
	check("y", truth.Unknown, truth.Unknown, truth.True, truth.Unknown)
	set(t, b, z, false)
	check("y, not z", truth.Unknown, truth.False, truth.True, truth.Unknown)
	set(t, b, x, true)
	check("all", truth.True, truth.False, truth.True, truth.True)
}

// P18.3: how many things there are, and which numbers they have.
func TestLen(t *testing.T) {
	b := truth.New()
	x, y := b.Var(), b.Var()
	things := []int{b.No(), b.Yes(), x, y, b.And(x, y), b.Or(x, y)}
	calls := map[string]struct {
		more int
		call func() int
	}{
		"Var":                  {1, b.Var},
		"And of No and No":     {1, func() int { return b.And(b.No(), b.No()) }},
		"And of Vars":          {1, func() int { return b.And(x, y) }},
		"And of things":        {1, func() int { return b.And(things[4], things[5]) }},
		"And of strange ones":  {1, func() int { return b.And(-1, 1<<40) }},
		"Or of none":           {0, func() int { return b.Or() }},
		"Or of one":            {1, func() int { return b.Or(x) }},
		"Or of a strange one":  {1, func() int { return b.Or(-1) }},
		"Or of two":            {2, func() int { return b.Or(x, y) }},
		"Or of one, twice":     {2, func() int { return b.Or(x, x) }},
		"Or of all":            {6, func() int { return b.Or(things...) }},
		"Or of all that hangs": {4, func() int { return b.Or(things[2:]...) }},
	}
	for range 3 {
		for what, c := range calls {
			was := b.Len()
			n := c.call()
			now := b.Len()
			if now < was || now > was+c.more || n < 0 || n >= now {
				t.Errorf("%s: %d, Len from %d to %d", what, n, was, now)
			}
			if what == "Var" && (now != was+1 || n != was) {
				t.Errorf("Var: %d, Len from %d to %d", n, was, now)
			}
		}
	}
	was := b.Len()
	b.Set(x, true)
	b.Set(y, false)
	b.Set(-1, true)
	b.Set(b.Len(), true)
	for n := range b.Len() + 3 {
		b.Value(n)
		b.Set(n, n%2 == 0)
	}
	if b.Len() != was {
		t.Error("Len behind Sets", b.Len(), was)
	}
	for n := range b.Len() {
		if b.Value(n) == truth.Unknown {
			t.Error("Unknown though all are Set", n)
		}
	}
}

// The chapter's examples.
func TestExamples(t *testing.T) {
	b := truth.New()
	has(t, b, "Or of Yes and a Var", b.Or(b.Yes(), b.Var()), truth.True)
	x, y := b.Var(), b.Var()
	a := b.And(x, y)
	has(t, b, "And of Vars", a, truth.Unknown)
	set(t, b, x, false)
	has(t, b, "And of a Var, Set to false, and another", a, truth.False)
	has(t, b, "the other Var", y, truth.Unknown)
}
