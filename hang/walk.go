package hang

import "riffle/api"

// visit is a value that is gone through: the ways to it, and which of its items comes next.
type visit struct {
	value *api.Value
	ways  []ways
	next  int
}

// walk goes through a value, as far as there are ways of a query. It keeps what is open in a
// list, and doesn't call itself, so that no value is too deep for it.
type walk struct {
	number int
	query  api.Query
	open   []visit
	steps  []api.Step // those to the value of each open visit, but the first one's, that has none
	hits   []Hit
}

// look finds what a query selects of a value.
func look(v *api.Value, number int, q api.Query) []Hit {
	w := walk{number: number, query: q, open: []visit{{value: v, ways: atWhole()}}}
	if at, ok := ready(q, v, atWhole()); ok {
		w.hit(v, nil, at)
	}
	for len(w.open) > 0 {
		o := &w.open[len(w.open)-1]
		if i := o.next; i < len(o.value.Items) {
			o.next++
			w.enter(o.value, i, atItem(q, o.ways, o.value, i))
		} else {
			w.open = w.open[:len(w.open)-1]
		}
	}
	return w.hits
}

// enter goes to an item of the value that was opened last.
func (w *walk) enter(v *api.Value, i int, l []ways) {
	item, n := &v.Items[i], len(w.open)-1
	if at, ok := ready(w.query, item, l); ok {
		// Each hit has steps of its own: so the list is handed on without its spare room.
		w.hit(item, append(w.steps[:n:n], step(v, i)), at)
	}
	if len(l) > 0 && len(item.Items) > 0 {
		w.steps = append(w.steps[:n], step(v, i))
		w.open = append(w.open, visit{value: item, ways: l})
	}
}

// hit puts down that a value is selected.
func (w *walk) hit(v *api.Value, steps []api.Step, ready int) {
	w.hits = append(w.hits, Hit{Query: w.number, Steps: steps, From: v.From, To: v.To, Ready: ready})
}

// ready is from where on it is known that a value is selected, and has ended; false, if that isn't known as yet.
func ready(q api.Query, v *api.Value, l []ways) (int, bool) {
	f := fate(q, l)
	return max(v.To, f.Holds), f.Holds >= 0 && ended(v)
}

// step is the step from a value to its item.
func step(v *api.Value, i int) api.Step {
	switch {
	case v.Kind != api.Object:
		return api.Step{Index: i}
	case i < len(v.Names):
		return api.Step{Named: true, Name: v.Names[i]}
	}
	return api.Step{Named: true}
}
