package eval

import "riffle/api"

// found is a value that was found, with the steps to it.
type found struct {
	api.Value
	steps []api.Step
}

// turn is that a segment, by its number, is asked what it selects of the value that
// begins at a place; behind the last segment: that the value is found.
type turn struct{ from, segment int }

// visit is a turn that is gone through: how many selectors were asked, the items to
// which it goes yet, and how many values had been found ahead of it.
type visit struct {
	value   *api.Value
	segment int
	asked   int
	items   []int
	had     int
}

// walk goes from turn to turn. It keeps what is open in a list, and doesn't call itself,
// so that no value is too deep for it.
type walk struct {
	query api.Query
	once  bool
	over  map[turn]bool // the turns that aren't taken again
	open  []visit
	steps []api.Step // those to the value of each open visit, but the first one's, that has none
	row   []found
}

// look finds what a query selects of a value: each node once, or as often as it selects it.
func look(v api.Value, q api.Query, once bool) []found {
	if len(q) == 0 {
		return []found{{Value: v}}
	}
	w := walk{query: q, once: once, over: map[turn]bool{}, open: []visit{{value: &v}}}
	for len(w.open) > 0 {
		o := &w.open[len(w.open)-1]
		if i, segment, ok := o.next(q[o.segment]); ok {
			w.enter(o.value, i, segment)
		} else {
			w.leave()
		}
	}
	return w.row
}

// next is the item to which a visit goes next, and the segment of that turn; false behind the last one.
func (o *visit) next(g api.Segment) (i, segment int, ok bool) {
	for len(o.items) == 0 {
		switch {
		case o.asked < len(g.Selectors):
			o.items = Children(*o.value, g.Selectors[o.asked])
		case o.asked == len(g.Selectors) && g.Deep:
			o.items = Children(*o.value, api.Selector{Kind: api.ByAny})
		default:
			return 0, 0, false
		}
		o.asked++
	}
	i, o.items = o.items[0], o.items[1:]
	if o.asked > len(g.Selectors) {
		return i, o.segment, true
	}
	return i, o.segment + 1, true
}

// enter takes the turn of an item of the value that was opened last.
func (w *walk) enter(v *api.Value, i, segment int) {
	item := &v.Items[i]
	t := turn{from: item.From, segment: segment}
	if w.over[t] {
		return
	}
	n := len(w.open) - 1
	if segment == len(w.query) {
		// Each value that is found has steps of its own: so the list is handed on without its spare room.
		w.row = append(w.row, found{Value: *item, steps: append(w.steps[:n:n], step(v, i))})
		if w.once {
			w.over[t] = true
		}
		return
	}
	if len(item.Items) == 0 {
		return
	}
	w.steps = append(w.steps[:n], step(v, i))
	w.open = append(w.open, visit{value: item, segment: segment, had: len(w.row)})
}

// leave ends the visit that was opened last. A turn by which nothing more was found isn't taken
// again: else segments that are Deep, one behind the other, would come to it in ever so many ways.
func (w *walk) leave() {
	o := w.open[len(w.open)-1]
	w.open = w.open[:len(w.open)-1]
	if len(w.row) == o.had {
		w.over[turn{from: o.value.From, segment: o.segment}] = true
	}
}
