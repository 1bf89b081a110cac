package slice_test

import (
	"math"
	"slices"
	"testing"

	"riffle/api"
	"riffle/slice"
)

const (
	most = api.MaxInt // the greatest right number of a selector
	many = 1 << 53    // the most items that there may be
	none = math.MinInt
)

// index is a selector by index.
func index(i int) api.Selector { return api.Selector{Kind: api.ByIndex, Index: i} }

// part is a slice; of what is none it has none.
func part(start, end, stride int) api.Selector {
	s := api.Selector{Kind: api.BySlice, Stride: stride}
	if start != none {
		s.Start, s.HasStart = start, true
	}
	if end != none {
		s.End, s.HasEnd = end, true
	}
	return s
}

// small are all selectors of some small numbers, of each kind and of two that there are none of.
func small() []api.Selector {
	var all []api.Selector
	for i := -7; i < 8; i++ {
		all = append(all, index(i), api.Selector{Kind: api.ByName, Name: "a", Index: i}, api.Selector{Kind: api.ByAny, Index: i})
	}
	numbers := []int{none, -7, -6, -5, -4, -3, -2, -1, 0, 1, 2, 3, 4, 5, 6, 7}
	for _, start := range numbers {
		for _, end := range numbers {
			for stride := -6; stride < 7; stride++ {
				all = append(all, part(start, end, stride))
			}
			for _, kind := range []int{-1, api.ByName, api.ByAny, 4} {
				s := part(start, end, 1)
				s.Kind = kind
				all = append(all, s)
			}
		}
	}
	return all
}

// far are slices and indexes of numbers at the edges of what is right.
func far() []api.Selector {
	numbers := []int{none, -most, -most + 1, -1 << 20, -2, -1, 0, 1, 2, 1 << 20, most - 1, most}
	var all []api.Selector
	for _, start := range numbers {
		if start != none {
			all = append(all, index(start))
		}
		for _, end := range numbers {
			for _, stride := range numbers[1:] {
				all = append(all, part(start, end, stride))
			}
		}
	}
	return all
}

// place is Place, by the chapter's words.
func place(i, many int) int {
	if i < 0 {
		return many + i
	}
	return i
}

// within is i, raised to low, or lowered to high, if it is beyond.
func within(i, low, high int) int {
	if i < low {
		return low
	}
	if i > high {
		return high
	}
	return i
}

// bounds is Bounds, by the chapter's words.
func bounds(s api.Selector, many int) (low, high int) {
	if s.Stride > 0 {
		low, high = 0, many
		if s.HasStart {
			low = place(s.Start, many)
		}
		if s.HasEnd {
			high = place(s.End, many)
		}
		return within(low, 0, many), within(high, 0, many)
	}
	if s.Stride < 0 {
		low, high = -1, many-1
		if s.HasStart {
			high = place(s.Start, many)
		}
		if s.HasEnd {
			low = place(s.End, many)
		}
		return within(low, -1, many-1), within(high, -1, many-1)
	}
	return 0, 0
}

// meant is what a selector means, by going from bound to bound, rising.
func meant(s api.Selector, many int) []int {
	var all []int
	low, high := bounds(s, many)
	switch {
	case s.Kind == api.ByIndex:
		for i := range many {
			if i == s.Index || i-many == s.Index {
				all = append(all, i)
			}
		}
	case s.Kind == api.BySlice && s.Stride > 0:
		for i := low; i < high; i += s.Stride {
			all = append(all, i)
		}
	case s.Kind == api.BySlice && s.Stride < 0:
		for i := high; i > low; i += s.Stride {
			all = append([]int{i}, all...)
		}
	}
	return all
}

// P12.1: Place.
func TestPlace(t *testing.T) {
	for _, x := range []struct{ i, many, want int }{
		{0, 5, 0}, {1, 5, 1}, {4, 5, 4}, {5, 5, 5}, {6, 5, 6}, {99, 5, 99},
		{-1, 5, 4}, {-2, 5, 3}, {-5, 5, 0}, {-6, 5, -1}, {-9, 5, -4},
		{0, 0, 0}, {3, 0, 3}, {-1, 0, -1}, {-3, 0, -3}, {0, 1, 0}, {-1, 1, 0}, {-2, 1, -1},
		{most, 5, most}, {-most, 5, 5 - most}, {most, 0, most}, {-most, 0, -most},
		{-1, many, most}, {-most, many, 1}, {most, many, most}, {0, many, 0}, {-most, most, 0}, {-most, most - 1, -1},
	} {
		if got := slice.Place(x.i, x.many); got != x.want {
			t.Errorf("Place(%d, %d) = %d, want %d", x.i, x.many, got, x.want)
		}
	}
}

// bound is a slice of so many items, and its bounds.
type bound struct{ start, end, stride, many, low, high int }

// rising are slices with a Stride above 0.
var rising = []bound{
	{none, none, 1, 5, 0, 5}, {none, none, 2, 5, 0, 5}, {none, none, most, 5, 0, 5},
	{0, none, 1, 5, 0, 5}, {2, none, 1, 5, 2, 5}, {5, none, 1, 5, 5, 5}, {6, none, 1, 5, 5, 5}, {most, none, 1, 5, 5, 5},
	{-1, none, 1, 5, 4, 5}, {-3, none, 2, 5, 2, 5}, {-5, none, 1, 5, 0, 5}, {-6, none, 1, 5, 0, 5}, {-most, none, 1, 5, 0, 5},
	{none, 0, 1, 5, 0, 0}, {none, 2, 1, 5, 0, 2}, {none, 5, 1, 5, 0, 5}, {none, 6, 1, 5, 0, 5}, {none, most, 1, 5, 0, 5},
	{none, -1, 1, 5, 0, 4}, {none, -5, 1, 5, 0, 0}, {none, -6, 1, 5, 0, 0}, {none, -most, 1, 5, 0, 0},
	{1, 3, 1, 5, 1, 3}, {3, 1, 1, 5, 3, 1}, {-4, -2, 1, 5, 1, 3}, {9, -9, 7, 5, 5, 0}, {-9, 9, 7, 5, 0, 5},
	{none, none, 1, 0, 0, 0}, {0, 0, 1, 0, 0, 0}, {-1, 1, 1, 0, 0, 0}, {1, -1, 1, 0, 0, 0}, {most, -most, most, 0, 0, 0},
	{none, none, 1, many, 0, many}, {most, none, 1, many, most, many}, {none, most, 1, many, 0, most},
	{-1, none, 1, many, most, many}, {-most, -1, 1, many, 1, most}, {none, -most, 1, many, 0, 1}, {0, 0, most, many, 0, 0},
}

// falling are slices with a Stride below 0.
var falling = []bound{
	{none, none, -1, 5, -1, 4}, {none, none, -2, 5, -1, 4}, {none, none, -most, 5, -1, 4},
	{0, none, -1, 5, -1, 0}, {2, none, -1, 5, -1, 2}, {4, none, -1, 5, -1, 4}, {5, none, -1, 5, -1, 4}, {most, none, -1, 5, -1, 4},
	{-1, none, -1, 5, -1, 4}, {-3, none, -2, 5, -1, 2}, {-5, none, -1, 5, -1, 0}, {-6, none, -1, 5, -1, -1}, {-7, none, -1, 5, -1, -1}, {-most, none, -1, 5, -1, -1},
	{none, 0, -1, 5, 0, 4}, {none, 2, -1, 5, 2, 4}, {none, 4, -1, 5, 4, 4}, {none, 5, -1, 5, 4, 4}, {none, most, -1, 5, 4, 4},
	{none, -1, -1, 5, 4, 4}, {none, -5, -1, 5, 0, 4}, {none, -6, -1, 5, -1, 4}, {none, -7, -1, 5, -1, 4}, {none, -most, -1, 5, -1, 4},
	{3, 0, -2, 5, 0, 3}, {0, 3, -2, 5, 3, 0}, {-2, -4, -1, 5, 1, 3}, {9, -9, -7, 5, -1, 4}, {-9, 9, -7, 5, 4, -1},
	{none, none, -1, 0, -1, -1}, {0, 0, -1, 0, -1, -1}, {-1, 1, -1, 0, -1, -1}, {1, -1, -1, 0, -1, -1}, {most, -most, -most, 0, -1, -1},
	{none, none, -1, many, -1, most}, {most, none, -1, many, -1, most}, {none, most, -1, many, most, most},
	{-1, none, -1, many, -1, most}, {-most, none, -1, many, -1, 1}, {-1, -most, -1, many, 1, most}, {most, 0, -most, many, 0, most},
}

// standing are slices with a Stride of 0.
var standing = []bound{
	{none, none, 0, 5, 0, 0}, {1, 3, 0, 5, 0, 0}, {3, 1, 0, 5, 0, 0}, {-1, none, 0, 5, 0, 0}, {none, -1, 0, 5, 0, 0}, {9, 9, 0, 5, 0, 0}, {-9, -9, 0, 5, 0, 0},
	{none, none, 0, 0, 0, 0}, {1, -1, 0, 0, 0, 0}, {none, none, 0, many, 0, 0}, {most, -most, 0, many, 0, 0},
}

// P12.1: Bounds, whatever the Kind is, and whatever stands in fields that a slice hasn't.
func TestBounds(t *testing.T) {
	for _, x := range slices.Concat(rising, falling, standing) {
		for _, kind := range []int{api.BySlice, api.ByIndex, api.ByAny, api.ByName, -1, 4} {
			s := part(x.start, x.end, x.stride)
			s.Kind = kind
			if low, high := slice.Bounds(s, x.many); low != x.low || high != x.high {
				t.Errorf("Bounds(%+v, %d) = %d, %d, want %d, %d", s, x.many, low, high, x.low, x.high)
			}
			s.Name, s.Index = "a", -2
			if !s.HasStart {
				s.Start = 3
			}
			if !s.HasEnd {
				s.End = -3
			}
			if low, high := slice.Bounds(s, x.many); low != x.low || high != x.high {
				t.Errorf("Bounds(%+v, %d) = %d, %d, want %d, %d", s, x.many, low, high, x.low, x.high)
			}
		}
	}
}

// P12.1: Bounds, by the chapter's words, of small numbers and of far ones.
func TestBoundsByWords(t *testing.T) {
	counts := []int{0, 1, 2, 3, 4, 5, 6, 1 << 20, most - 1, most, many}
	for _, s := range append(small(), far()...) {
		for _, n := range counts {
			low, high := slice.Bounds(s, n)
			if l, h := bounds(s, n); low != l || high != h {
				t.Fatalf("Bounds(%+v, %d) = %d, %d, want %d, %d", s, n, low, high, l, h)
			}
		}
	}
}

// P12.2: the chapter's examples.
func TestExamples(t *testing.T) {
	for _, x := range []struct {
		s    api.Selector
		want []int
	}{{part(-2, none, 1), []int{3, 4}}, {part(3, 0, -2), []int{1, 3}}} {
		means(t, x.s, 5, x.want)
	}
}

// means tells whether a selector Has these, and none else, and All them.
func means(t *testing.T, s api.Selector, n int, want []int) {
	t.Helper()
	if all := slice.All(s, n); !slices.Equal(all, want) {
		t.Fatalf("All(%+v, %d) = %v, want %v", s, n, all, want)
	}
	for i := -n - 3; i < 2*n+3; i++ {
		if got := slice.Has(s, i, n); got != slices.Contains(want, i) {
			t.Fatalf("Has(%+v, %d, %d) = %v, want %v", s, i, n, got, want)
		}
	}
	for _, i := range []int{math.MinInt, -most, most, many, math.MaxInt} {
		if slice.Has(s, i, n) {
			t.Fatalf("Has(%+v, %d, %d)", s, i, n)
		}
	}
}

// P12.2: Has and All, by tables.
func TestHasAndAll(t *testing.T) {
	for _, x := range []struct {
		s    api.Selector
		want []int
	}{
		{index(0), []int{0}}, {index(1), []int{1}}, {index(6), []int{6}}, {index(7), nil}, {index(8), nil}, {index(most), nil},
		{index(-1), []int{6}}, {index(-2), []int{5}}, {index(-7), []int{0}}, {index(-8), nil}, {index(-most), nil},
		{part(none, none, 1), []int{0, 1, 2, 3, 4, 5, 6}}, {part(2, none, 1), []int{2, 3, 4, 5, 6}}, {part(none, 2, 1), []int{0, 1}}, {part(2, 5, 1), []int{2, 3, 4}},
		{part(6, 7, 1), []int{6}}, {part(7, none, 1), nil}, {part(3, 3, 1), nil}, {part(5, 2, 1), nil}, {part(-2, none, 1), []int{5, 6}}, {part(none, -5, 1), []int{0, 1}}, {part(-100, 100, 1), []int{0, 1, 2, 3, 4, 5, 6}},
		{part(none, none, 2), []int{0, 2, 4, 6}}, {part(none, none, 3), []int{0, 3, 6}}, {part(none, none, 4), []int{0, 4}}, {part(none, none, 6), []int{0, 6}}, {part(none, none, 7), []int{0}}, {part(none, none, most), []int{0}},
		{part(1, none, 2), []int{1, 3, 5}}, {part(1, 5, 2), []int{1, 3}}, {part(1, 6, 2), []int{1, 3, 5}}, {part(-5, -1, 3), []int{2, 5}}, {part(-100, none, 3), []int{0, 3, 6}},
		{part(none, none, -1), []int{0, 1, 2, 3, 4, 5, 6}}, {part(2, none, -1), []int{0, 1, 2}}, {part(none, 2, -1), []int{3, 4, 5, 6}}, {part(5, 2, -1), []int{3, 4, 5}},
		{part(0, none, -1), []int{0}}, {part(none, 5, -1), []int{6}}, {part(none, 6, -1), nil}, {part(3, 3, -1), nil}, {part(2, 5, -1), nil}, {part(-2, -5, -1), []int{3, 4, 5}}, {part(100, -100, -1), []int{0, 1, 2, 3, 4, 5, 6}}, {part(-8, none, -1), nil},
		{part(none, none, -2), []int{0, 2, 4, 6}}, {part(none, none, -3), []int{0, 3, 6}}, {part(none, none, -4), []int{2, 6}}, {part(none, none, -6), []int{0, 6}}, {part(none, none, -7), []int{6}}, {part(none, none, -most), []int{6}},
		{part(5, none, -2), []int{1, 3, 5}}, {part(5, 1, -2), []int{3, 5}}, {part(5, 0, -2), []int{1, 3, 5}}, {part(-2, -6, -3), []int{2, 5}}, {part(100, none, -4), []int{2, 6}}, {part(4, 1, -2), []int{2, 4}}, {part(5, 0, -3), []int{2, 5}},
		{part(none, none, 0), nil}, {part(0, 7, 0), nil}, {part(-1, none, 0), nil}, {part(3, 0, 0), nil},
	} {
		means(t, x.s, 7, x.want)
		means(t, x.s, 0, nil)
	}
}

// P12.2: each of the items of an array of one, of two, and so on, by what stands from bound to bound; All is just what Has has.
func TestSmallByWords(t *testing.T) {
	for _, s := range small() {
		for n := range 7 {
			means(t, s, n, meant(s, n))
		}
	}
}

// P12.2: of other kinds no, whatever the other fields are.
func TestOtherKinds(t *testing.T) {
	for _, kind := range []int{math.MinInt, -1, api.ByName, api.ByAny, 4, 5, math.MaxInt} {
		for _, s := range []api.Selector{{}, {Name: "a"}, {Index: 1}, {Index: -1}, {Stride: 1}, {Stride: -1}, part(0, 5, 1), part(-1, -5, -1)} {
			s.Kind = kind
			means(t, s, 5, nil)
		}
	}
}

// P12.2: what stands in fields of another kind doesn't matter.
func TestFieldsOfAnotherKind(t *testing.T) {
	for _, i := range []int{-6, -5, -1, 0, 1, 4, 5} {
		s := part(1, 3, 1)
		s.Kind, s.Index = api.ByIndex, i
		means(t, s, 5, meant(index(i), 5))
		s = part(3, 0, -2)
		s.Index, s.Name = i, "a"
		means(t, s, 5, []int{1, 3})
		s = api.Selector{Kind: api.BySlice, Stride: 2, Start: i, End: -i}
		means(t, s, 5, []int{0, 2, 4})
		if slice.Hangs(s) {
			t.Errorf("Hangs(%+v)", s)
		}
	}
}

// P12.2: Has at low and at high, and beside them, of numbers that are far apart.
func TestHasFar(t *testing.T) {
	type has struct {
		s    api.Selector
		i    int
		want bool
	}
	for _, x := range []has{
		{index(most), most, true}, {index(most), most - 1, false}, {index(-1), most, true}, {index(-1), most - 1, false}, {index(-most), 1, true}, {index(-most), 0, false}, {index(0), 0, true}, {index(most), many, false},
		{part(none, none, 1), 0, true}, {part(none, none, 1), most, true}, {part(none, none, 1), many, false}, {part(none, none, 1), -1, false},
		{part(none, most, 1), most - 1, true}, {part(none, most, 1), most, false}, {part(most, none, 1), most, true}, {part(most, none, 1), most - 1, false},
		{part(none, none, most), 0, true}, {part(none, none, most), most, true}, {part(none, none, most), 1, false}, {part(1, none, most), 1, true}, {part(1, none, most), most, false}, {part(none, most, most), most, false},
		{part(-most, none, 2), 1, true}, {part(-most, none, 2), 2, false}, {part(-most, none, 2), most, true}, {part(-most, none, 2), 0, false},
		{part(none, none, -1), most, true}, {part(none, none, -1), 0, true}, {part(none, none, -1), many, false}, {part(none, 0, -1), 0, false}, {part(none, 0, -1), 1, true},
		{part(none, none, -most), most, true}, {part(none, none, -most), 0, true}, {part(none, none, -most), 1, false}, {part(none, 0, -most), 0, false}, {part(-2, none, -most), most - 1, true}, {part(-2, none, -most), 0, false},
		{part(none, none, -2), 0, false}, {part(none, none, -2), 1, true}, {part(-most, none, -1), 1, true}, {part(-most, none, -1), 2, false}, {part(none, -most, -1), 1, false}, {part(none, -most, -1), 2, true},
		{part(none, none, 0), 0, false}, {part(0, most, 0), 0, false},
	} {
		if got := slice.Has(x.s, x.i, many); got != x.want {
			t.Errorf("Has(%+v, %d, 2^53) = %v", x.s, x.i, got)
		}
	}
}

// P12.2: All of as many items as there may be then, with strides of each size, is what Has has.
func TestAllOfMany(t *testing.T) {
	const n = 1 << 20
	for _, s := range []api.Selector{
		part(none, none, 1), part(none, none, -1), part(none, none, 2), part(none, none, -2), part(none, none, 1000), part(none, none, -1000), part(none, none, n-1), part(none, none, 1-n), part(none, none, most), part(none, none, -most),
		part(1, -1, 3), part(-2, 0, -3), part(most, -most, 1), part(most, -most, -1), part(-most, most, 1), part(none, none, 0), index(n - 1), index(n), index(-n), index(-n - 1), index(-1), {Kind: api.ByAny},
	} {
		var want []int
		for i := range n {
			if slice.Has(s, i, n) {
				want = append(want, i)
			}
		}
		if !slices.Equal(want, meantOfMany(s, n)) {
			t.Errorf("Has(%+v): %d of 2^20", s, len(want))
		}
		if all := slice.All(s, n); !slices.Equal(all, want) {
			t.Errorf("All(%+v, 2^20): %d, want %d", s, len(all), len(want))
		}
	}
}

// meantOfMany is meant, of many items, put together the other way round.
func meantOfMany(s api.Selector, n int) []int {
	if s.Kind != api.BySlice || s.Stride >= 0 {
		return meant(s, n)
	}
	var all []int
	low, high := bounds(s, n)
	for i := high; i > low; i += s.Stride {
		all = append(all, i)
	}
	slices.Reverse(all)
	return all
}

// P12.3: Hangs.
func TestHangs(t *testing.T) {
	hanging := []api.Selector{
		index(-1), index(-2), index(-most),
		part(none, none, -1), part(none, none, -2), part(none, none, -most), part(1, none, -1), part(none, 1, -1), part(3, 0, -2), part(0, 0, -1), part(-1, none, -1), part(none, -1, -1), part(-1, -2, -1),
		part(-1, none, 1), part(-1, 5, 2), part(-most, none, 1), part(none, -1, 1), part(0, -1, 1), part(5, -2, most), part(none, -most, 1), part(-1, -1, 1), part(-2, none, most),
	}
	for _, s := range hanging {
		if !slice.Hangs(s) {
			t.Errorf("Hangs(%+v) = false", s)
		}
	}
	standing := []api.Selector{
		index(0), index(1), index(most), {},
		part(none, none, 1), part(none, none, 2), part(none, none, most), part(0, none, 1), part(none, 0, 1), part(1, 3, 1), part(3, 1, 2), part(most, most, most),
		{Kind: api.BySlice, Start: -1, Stride: 1}, {Kind: api.BySlice, End: -1, Stride: 1}, {Kind: api.BySlice, Start: -1, End: -1, Stride: 3}, {Kind: api.BySlice, Index: -1, Stride: 1},
		{Kind: api.BySlice, HasStart: true, End: -1, Stride: 1}, {Kind: api.BySlice, Start: -1, HasEnd: true, Stride: 1},
		part(none, none, 0), part(-1, none, 0), part(none, -1, 0), part(-1, -1, 0), {Kind: api.BySlice},
		{Kind: api.ByIndex, Stride: -1}, {Kind: api.ByIndex, Index: 3, Start: -1, HasStart: true, End: -1, HasEnd: true, Stride: 1},
	}
	for _, s := range standing {
		if slice.Hangs(s) {
			t.Errorf("Hangs(%+v) = true", s)
		}
	}
	for _, s := range append(hanging, standing...) {
		for _, kind := range []int{math.MinInt, -1, api.ByName, api.ByAny, 4, math.MaxInt} {
			s.Kind, s.Index = kind, -1
			if slice.Hangs(s) {
				t.Errorf("Hangs(%+v) = true", s)
			}
		}
	}
}

// P12.3: of what doesn't hang Has is the same, whatever many is above i.
func TestWhatDoesntHang(t *testing.T) {
	for _, s := range append(small(), far()...) {
		if slice.Hangs(s) {
			continue
		}
		for _, i := range []int{0, 1, 2, 3, 4, 5, 6, 7, 1 << 20, most - 1, most} {
			want := slice.Has(s, i, i+1)
			for _, above := range []int{1, 2, 3, 5, 1 << 20, 1 << 52} {
				if n := min(i+above, many); slice.Has(s, i, n) != want {
					t.Fatalf("Has(%+v, %d, %d) = %v", s, i, n, !want)
				}
			}
			if slice.Has(s, i, many) != want {
				t.Fatalf("Has(%+v, %d, 2^53) = %v", s, i, !want)
			}
		}
	}
}

// P12.3: by words, of all small selectors and far ones.
func TestHangsByWords(t *testing.T) {
	for _, s := range append(small(), far()...) {
		below := s.HasStart && s.Start < 0 || s.HasEnd && s.End < 0
		want := s.Kind == api.ByIndex && s.Index < 0 || s.Kind == api.BySlice && (s.Stride < 0 || s.Stride != 0 && below)
		if slice.Hangs(s) != want {
			t.Fatalf("Hangs(%+v) = %v", s, !want)
		}
	}
}

// P1: calls end with all numbers, also with those of which nothing is promised.
func TestWrongNumbers(t *testing.T) {
	numbers := []int{math.MinInt, math.MinInt + 1, -many, -most, -2, -1, 0, 1, 2, most, many, many + 1, math.MaxInt - 1, math.MaxInt}
	for _, start := range numbers {
		for _, end := range numbers {
			for _, stride := range numbers {
				for which := range 4 {
					s := api.Selector{Kind: api.BySlice, Index: start, Start: start, End: end, HasStart: which%2 == 1, HasEnd: which/2 == 1, Stride: stride}
					for _, n := range numbers {
						endsAtAll(s, n)
					}
				}
			}
		}
		for _, kind := range []int{math.MinInt, -1, api.ByName, api.ByAny, api.ByIndex, 4} {
			for _, n := range numbers {
				endsAtAll(api.Selector{Kind: kind, Index: start, Start: start, HasStart: true, Stride: 1}, n)
			}
		}
	}
}

// endsAtAll makes each call with a selector; All only if there is little of it, since another test has it of much.
func endsAtAll(s api.Selector, n int) {
	slice.Place(s.Index, n)
	slice.Bounds(s, n)
	slice.Hangs(s)
	for _, i := range []int{math.MinInt, -1, 0, n - 1, n, s.Start, s.End, math.MaxInt} {
		slice.Has(s, i, n)
	}
	if s.Kind != api.BySlice || s.Stride < -2 || s.Stride > 2 || s.Stride == 0 {
		slice.All(s, n)
	}
}

// P1: All ends, in short time and little room, of however many items.
func TestAllOfTooMany(t *testing.T) {
	for _, n := range []int{1<<20 + 1, many, math.MaxInt, -1, math.MinInt} {
		for _, stride := range []int{1, -1, 2, -2, 1 << 20, -1 << 20} {
			for _, s := range []api.Selector{part(none, none, stride), part(n/2, none, stride)} {
				if all := slice.All(s, n); len(all) > 1<<20 {
					t.Fatalf("All(%+v, %d): %d", s, n, len(all))
				}
			}
		}
	}
}

// P2 and the rules: calls stand alone, and what All answers is new memory, spare room too.
func TestCallsStandAlone(t *testing.T) {
	for _, s := range []api.Selector{index(1), index(-1), part(none, none, 1), part(none, none, -2), part(-4, none, 1), part(0, 0, 0)} {
		for n := range 40 {
			want := meant(s, n)
			one, other := slice.All(s, n), slice.All(s, n)
			one = one[:cap(one)]
			for i := range one {
				one[i] = -9
			}
			slice.All(part(none, none, 1), 64)
			if !slices.Equal(other, want) || !slices.Equal(slice.All(s, n), want) {
				t.Fatalf("All(%+v, %d) = %v, then %v, want %v", s, n, other, slice.All(s, n), want)
			}
		}
	}
}
