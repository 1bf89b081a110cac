package hang

import (
	"math"

	"riffle/api"
	"riffle/slice"
)

// never is a place behind all places.
const never = math.MaxInt

// ways are all possible ways to a value by which that many segments have been met: the least
// place from which one of them holds (never, if none does), and the greatest one from which one
// fails (never, if one doesn't). No fate asks for more, so that ever so many ways are as one.
type ways struct{ met, holds, fails int }

// atWhole has the ways to the whole value.
func atWhole() []ways { return []ways{{fails: never}} }

// atItem has the ways to an item of a value, of those to the value. In both lists the segments that have been met rise.
func atItem(q api.Query, l []ways, v *api.Value, i int) []ways {
	var next []ways
	for _, w := range l {
		if w.met == len(q) {
			continue // where all segments have been met, a way ends
		}
		g := q[w.met]
		if g.Deep {
			next = join(next, w)
		}
		for _, s := range g.Selectors {
			if met, ok := w.meet(s, v, i); ok {
				next = join(next, met)
			}
		}
	}
	return next
}

// meet has the ways on, by a meeting at an item; false, if none is possible.
func (w ways) meet(s api.Selector, v *api.Value, i int) (ways, bool) {
	w.met++
	if v.Kind != api.Array || !slice.Hangs(s) {
		return w, child(s, v, i)
	}
	switch {
	case !ended(v):
		w.holds = never
	case child(s, v, i):
		w.holds = max(w.holds, v.To)
	default:
		w.holds, w.fails = never, min(w.fails, v.To)
	}
	return w, true
}

// join puts ways to some, of which none have met more segments.
func join(l []ways, w ways) []ways {
	last := len(l) - 1
	if last < 0 || l[last].met < w.met {
		return append(l, w)
	}
	l[last].holds = min(l[last].holds, w.holds)
	l[last].fails = max(l[last].fails, w.fails)
	return l
}

// fate is that of a value to which these ways lead.
func fate(q api.Query, l []ways) Fate {
	last := len(l) - 1
	if last < 0 || l[last].met < len(q) {
		return Fate{Holds: -1, Fails: -1}
	}
	return Fate{May: true, Holds: known(l[last].holds), Fails: known(l[last].fails)}
}

// known is a place, or -1 for never.
func known(place int) int {
	if place == never {
		return -1
	}
	return place
}

// child tells whether an item is one of those that a selector selects of a value.
func child(s api.Selector, v *api.Value, i int) bool {
	array, object := v.Kind == api.Array, v.Kind == api.Object
	switch s.Kind {
	case api.ByName:
		return object && i < len(v.Names) && v.Names[i] == s.Name
	case api.ByAny:
		return array || object
	}
	return array && slice.Has(s, i, len(v.Items))
}

// ended tells whether a value so far has.
func ended(v *api.Value) bool { return v.To != 0 }
