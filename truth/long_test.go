package truth_test

import (
	"runtime"
	"testing"

	"riffle/truth"
)

const long = 200_000

// P18.2, P1: a long chain of Ands and Ors, of a new Var each, is known at once
// when the last that it hangs on is Set, at whichever end that is.
func TestChains(t *testing.T) {
	for _, last := range []int{0, long / 2, long} {
		for _, yes := range []bool{true, false} {
			b := truth.New()
			vars := []int{b.Var()}
			top := vars[0]
			for n := range long {
				x := b.Var()
				vars = append(vars, x)
				// What is Set to yes leaves the chain to the next one.
				if yes == (n%2 == 0) {
					top = b.And(top, b.Or(x, b.No()))
				} else {
					top = b.And(b.Yes(), b.Or(b.No(), b.And(x, top)))
				}
			}
			for n, x := range vars {
				if n != last {
					set(t, b, x, true)
				}
				if n%1000 == 0 && b.Value(top) != truth.Unknown {
					t.Fatal("known already", n)
				}
			}
			has(t, b, "all but one", top, truth.Unknown)
			set(t, b, vars[last], yes)
			want := truth.False
			if yes {
				want = truth.True
			}
			has(t, b, "all", top, want)
		}
	}
}

// P18.2: a chain that has each link twice, and so ways without number.
func TestLadder(t *testing.T) {
	for _, yes := range []bool{true, false} {
		b := truth.New()
		x, y, z := b.Var(), b.Var(), b.Var()
		top := b.And(x, y)
		for range long {
			top = b.And(b.Or(top, z), b.Or(top, b.And(top, y)))
		}
		has(t, b, "none Set", top, truth.Unknown)
		set(t, b, z, false)
		has(t, b, "z Set", top, truth.Unknown)
		set(t, b, x, true)
		has(t, b, "z and x Set", top, truth.Unknown)
		set(t, b, y, yes)
		want := truth.False
		if yes {
			want = truth.True
		}
		has(t, b, "all Set", top, want)
	}
}

// P18.2: an Or of very many things, and very many Ands and Ors of one thing.
func TestWide(t *testing.T) {
	b := truth.New()
	one := b.Var()
	var vars, ands, ors []int
	for range long {
		x := b.Var()
		vars = append(vars, x)
		ands = append(ands, b.And(one, x))
		ors = append(ors, b.Or(x, one))
	}
	any := b.Or(vars...)
	twice := b.Or(append(append([]int{}, vars...), vars...)...)
	for n, x := range vars[1:] {
		set(t, b, x, false)
		if n%1000 == 0 && (b.Value(any) != truth.Unknown || b.Value(ands[n+1]) != truth.False || b.Value(ors[n+1]) != truth.Unknown) {
			t.Fatal("at", n, b.Value(any), b.Value(ands[n+1]), b.Value(ors[n+1]))
		}
	}
	has(t, b, "Or of all but one", any, truth.Unknown)
	set(t, b, vars[0], true)
	has(t, b, "Or of all", any, truth.True)
	has(t, b, "Or of all twice", twice, truth.True)
	set(t, b, one, true)
	for n := range vars {
		want := truth.False
		if n == 0 {
			want = truth.True
		}
		if b.Value(ands[n]) != want || b.Value(ors[n]) != truth.True {
			t.Fatal("in the end", n, b.Value(ands[n]), b.Value(ors[n]))
		}
	}
}

// kept is how many bytes are kept by what a call does.
func kept(call func()) int {
	var before, after runtime.MemStats
	runtime.GC()
	runtime.ReadMemStats(&before)
	call()
	runtime.GC()
	runtime.ReadMemStats(&after)
	return int(after.HeapAlloc) - int(before.HeapAlloc)
}

// What is known takes no more than its value: a book doesn't grow by what it
// was known by.
func TestLittleIsKept(t *testing.T) {
	b := truth.New()
	bytes := kept(func() {
		for n := range 4 * long {
			x, y := b.Var(), b.Var()
			a := b.Or(b.And(x, y), b.And(y, x))
			b.Set(y, n%2 == 0)
			b.Set(x, n%3 == 0)
			if b.Value(a) == truth.Unknown {
				t.Fatal(n)
			}
		}
	})
	if bytes > 4*b.Len() {
		t.Errorf("%d bytes for %d things", bytes, b.Len())
	}
}

// Nothing is kept of an And and an Or that are as an old thing at all times.
func TestOldThings(t *testing.T) {
	b := truth.New()
	x, y := b.Var(), b.Var()
	a := b.And(x, y)
	bytes := kept(func() {
		for range 4 * long {
			b.And(a, a)
			b.Or(a, x, b.Yes())
			b.And(b.Yes(), b.Or(b.No(), a, -1, a, a))
		}
	})
	if bytes > 1<<16 {
		t.Errorf("%d bytes", bytes)
	}
	set(t, b, x, false)
	has(t, b, "And", a, truth.False)
}
