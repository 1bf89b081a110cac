package bits_test

import (
	"slices"
	"testing"

	"riffle/bits"
)

// taken has of each number of bits at an edge how many words they take, and of some others.
var taken = map[int]int{
	0: 0, 1: 1, 2: 1, 31: 1, 32: 1, 33: 1, 62: 1, 63: 1, 64: 1, 65: 2, 66: 2, 127: 2, 128: 2, 129: 3,
	191: 3, 192: 3, 193: 4, 255: 4, 256: 4, 257: 5,
}

// patterns are ways of telling a stack's bits, by how many are below each.
var patterns = map[string]func(i int) bool{
	"none":        func(int) bool { return false },
	"all":         func(int) bool { return true },
	"every other": func(i int) bool { return i%2 == 0 },
	"every third": func(i int) bool { return i%3 == 1 },
	"each first":  func(i int) bool { return i%64 == 0 },
	"each last":   func(i int) bool { return i%64 == 63 },
	"some":        func(i int) bool { return (i*i/7+i/5)%3 == 0 },
}

// list has so many bits of a pattern.
func list(n int, bit func(i int) bool) []bool {
	all := make([]bool, n)
	for i := range all {
		all[i] = bit(i)
	}
	return all
}

// stack has these bits, the first one lowest.
func stack(all []bool) *bits.Stack {
	var s bits.Stack
	for _, b := range all {
		s.Push(b)
	}
	return &s
}

// least is how many words of 64 bits hold so many.
func least(n int) int {
	words := 0
	for 64*words < n {
		words++
	}
	return words
}

// short tells what Top, Len and Words answer, without what All does.
func short(t *testing.T, s *bits.Stack, want []bool) {
	t.Helper()
	top, is := false, len(want) > 0
	if is {
		top = want[len(want)-1]
	}
	if b, ok := s.Top(); b != top || ok != is {
		t.Fatalf("%d bits: Top = %v, %v, want %v, %v", len(want), b, ok, top, is)
	}
	if s.Len() != len(want) || s.Words() != least(len(want)) {
		t.Fatalf("%d bits: Len = %d, Words = %d, want %d words", len(want), s.Len(), s.Words(), least(len(want)))
	}
}

// holds tells whether a stack has these bits, the first one lowest, and none else.
func holds(t *testing.T, s *bits.Stack, want []bool) {
	t.Helper()
	short(t, s, want)
	if all := s.All(); !slices.Equal(all, want) {
		t.Fatalf("All = %v, want %v", all, want)
	}
	short(t, s, want)
}

// pops takes the top bit, which must be that of a list, and answers the list without it.
func pops(t *testing.T, s *bits.Stack, all []bool) []bool {
	t.Helper()
	if len(all) == 0 {
		if b, ok := s.Pop(); b || ok {
			t.Fatalf("Pop of no bits = %v, %v", b, ok)
		}
		return all
	}
	last := len(all) - 1
	if b, ok := s.Pop(); b != all[last] || !ok {
		t.Fatalf("Pop of %d bits = %v, %v, want %v, true", len(all), b, ok, all[last])
	}
	return all[:last]
}

// overwritten turns all bits of a list, and of its spare room.
func overwritten(all []bool) {
	all = all[:cap(all)]
	for i := range all {
		all[i] = !all[i]
	}
}

// P8.1 and P8.2: the chapter's example.
func TestExample(t *testing.T) {
	var s bits.Stack
	s.Push(true)
	s.Push(false)
	if b, ok := s.Top(); b || !ok {
		t.Errorf("Top = %v, %v, want false, true", b, ok)
	}
	if all := s.All(); !slices.Equal(all, []bool{true, false}) {
		t.Errorf("All = %v, want true, false", all)
	}
	if s.Words() != 1 {
		t.Errorf("Words = %d, want 1", s.Words())
	}
}

// P8.1 and P8.2: the zero value is an empty stack, whatever it is asked, and whatever is taken off it.
func TestZeroValue(t *testing.T) {
	var s bits.Stack
	for range 3 {
		if b, ok := s.Top(); b || ok {
			t.Errorf("Top = %v, %v", b, ok)
		}
		if b, ok := s.Pop(); b || ok {
			t.Errorf("Pop = %v, %v", b, ok)
		}
		if s.Len() != 0 || s.Words() != 0 || len(s.All()) != 0 {
			t.Errorf("Len = %d, Words = %d, All = %v", s.Len(), s.Words(), s.All())
		}
	}
}

// P8.1: a false on top is told apart from nothing, by Top and by Pop.
func TestFalseIsNotNothing(t *testing.T) {
	var s bits.Stack
	s.Push(false)
	if b, ok := s.Top(); b || !ok {
		t.Errorf("Top = %v, %v, want false, true", b, ok)
	}
	if b, ok := s.Pop(); b || !ok {
		t.Errorf("Pop = %v, %v, want false, true", b, ok)
	}
	if b, ok := s.Top(); b || ok {
		t.Errorf("Top of nothing = %v, %v", b, ok)
	}
	if b, ok := s.Pop(); b || ok {
		t.Errorf("Pop of nothing = %v, %v", b, ok)
	}
}

// P8.1: Top leaves the bit where it is, Pop takes it.
func TestTopStaysAndPopGoes(t *testing.T) {
	for _, n := range []int{1, 2, 63, 64, 65, 127, 128, 129} {
		for _, bit := range patterns {
			all := list(n, bit)
			s := stack(all)
			for range 3 {
				if b, ok := s.Top(); b != all[n-1] || !ok {
					t.Fatalf("%d bits: Top = %v, %v, want %v, true", n, b, ok, all[n-1])
				}
				holds(t, s, all)
			}
			holds(t, s, pops(t, s, all))
		}
	}
}

// P8.1 and P8.2: what was pushed comes back, the last one first; All, Len and Words with each number of bits, on the way up and on the way down again.
func TestUpAndDown(t *testing.T) {
	for name, bit := range patterns {
		t.Run(name, func(t *testing.T) {
			all := list(260, bit)
			var s bits.Stack
			for n := range all {
				holds(t, &s, all[:n])
				s.Push(all[n])
			}
			left := all
			for len(left) > 0 {
				holds(t, &s, left)
				left = pops(t, &s, left)
			}
			holds(t, &s, nil)
		})
	}
}

// P8.2: the words at each edge, written out, on the way up, down and up again.
func TestWords(t *testing.T) {
	var s bits.Stack
	isTaken := func(way string, n int) {
		t.Helper()
		if want, known := taken[n]; known && s.Words() != want {
			t.Errorf("%s: Words of %d bits = %d, want %d", way, n, s.Words(), want)
		}
	}
	const most = 257
	for _, way := range []string{"up", "up again"} {
		for n := range most {
			isTaken(way, n)
			s.Push(n%2 == 0)
		}
		for n := most; n > 0; n-- {
			isTaken("down from "+way, n)
			s.Pop()
		}
		isTaken("at the end of "+way, 0)
	}
}

// P8.1: a bit pushed onto a place from which another one was popped, of each value over each, at each place; and those below stay.
func TestPushOverPopped(t *testing.T) {
	for name, bit := range patterns {
		for n := range 131 {
			below := list(n, bit)
			for which := range 4 {
				first, second := which/2 == 1, which%2 == 1
				s := stack(below)
				s.Push(first)
				if b, ok := s.Pop(); b != first || !ok {
					t.Fatalf("%s, %d below: Pop = %v, %v, want %v, true", name, n, b, ok, first)
				}
				s.Push(second)
				holds(t, s, append(slices.Clone(below), second))
			}
		}
	}
}

// P8.1: many bits that were popped, over an edge of words, leave nothing behind for those that come in their place.
func TestNothingIsLeftBehind(t *testing.T) {
	for kept := range 131 {
		for name, bit := range patterns {
			before, after := list(200, bit), list(200, func(i int) bool { return i < kept && bit(i) || i >= kept && !bit(i) })
			s := stack(before)
			for range len(before) - kept {
				s.Pop()
			}
			holds(t, s, before[:kept])
			for _, b := range after[kept:] {
				s.Push(b)
			}
			if all := s.All(); !slices.Equal(all, after) {
				t.Fatalf("%s, %d kept: All = %v, want %v", name, kept, all, after)
			}
		}
	}
}

// P8.1 and P8.2: Pop of more than there are, as often as it comes, and Push behind that.
func TestPopOfMoreThanThereAre(t *testing.T) {
	for _, n := range []int{0, 1, 2, 63, 64, 65, 127, 128, 129} {
		for _, bit := range patterns {
			all := list(n, bit)
			s := stack(all)
			for left := all; len(left) > 0; {
				left = pops(t, s, left)
			}
			for range 130 {
				if b, ok := s.Pop(); b || ok {
					t.Fatalf("%d bits: Pop of nothing = %v, %v", n, b, ok)
				}
				short(t, s, nil)
			}
			holds(t, s, nil)
			var again []bool
			for i := range 130 {
				again = append(again, !bit(i))
				s.Push(!bit(i))
				short(t, s, again)
			}
			holds(t, s, again)
		}
	}
}

// P8.1 and P8.2: all short rows of Push and Pop, behind so many bits that they stand at an edge of words.
func TestShortRows(t *testing.T) {
	const length, rows = 7, 3 * 3 * 3 * 3 * 3 * 3 * 3
	for _, n := range []int{0, 1, 2, 61, 62, 63, 64, 65, 66, 126, 127, 128, 129} {
		below := list(n, patterns["some"])
		for row := range rows {
			s, all := stack(below), slices.Clone(below)
			for range length {
				switch row % 3 {
				case 0:
					all = pops(t, s, all)
				default:
					all = append(all, row%3 == 1)
					s.Push(row%3 == 1)
				}
				row /= 3
				short(t, s, all)
			}
			holds(t, s, all)
		}
	}
}

// P8.1 and the rules: what All answers is new memory, spare room too: what is written over it changes neither the stack nor another answer.
func TestAllIsNewMemory(t *testing.T) {
	for _, n := range []int{0, 1, 2, 63, 64, 65, 127, 128, 129} {
		want := list(n, patterns["some"])
		s := stack(want)
		one, other := s.All(), s.All()
		overwritten(one)
		if !slices.Equal(other, want) {
			t.Fatalf("%d bits: another answer was written over: %v", n, other)
		}
		holds(t, s, want)
		for i := range 70 {
			s.Push(i%2 == 0)
		}
		if !slices.Equal(other, want) {
			t.Fatalf("%d bits: an answer was pushed into: %v", n, other)
		}
		for range 70 {
			s.Pop()
		}
		holds(t, s, want)
		for range n {
			s.Pop()
		}
		if !slices.Equal(other, want) {
			t.Fatalf("%d bits: an answer was popped from: %v", n, other)
		}
	}
}

// P2: one stack has nothing to do with another one, nor has asking with what comes behind it.
func TestStacksStandAlone(t *testing.T) {
	var one, other, asked bits.Stack
	var ones, others []bool
	for i := range 200 {
		b := patterns["some"](i)
		one.Push(b)
		other.Push(!b)
		asked.Push(b)
		ones, others = append(ones, b), append(others, !b)
		if i%3 == 2 {
			ones, others = pops(t, &one, ones), pops(t, &other, others)
			asked.Pop()
		}
		for range 2 {
			holds(t, &asked, ones)
		}
	}
	holds(t, &one, ones)
	holds(t, &other, others)
	holds(t, &asked, ones)
}

// P1 and P2: many bits, up, down by some and up again: each call ends, and answers as with few.
func TestManyBits(t *testing.T) {
	const many = 1 << 20
	bit := patterns["some"]
	all := list(many, bit)
	s := stack(all)
	holds(t, s, all)
	left := all
	for len(left) > many/3 {
		left = pops(t, s, left)
	}
	holds(t, s, left)
	again := slices.Clone(left)
	for i := len(again); i < many; i++ {
		again = append(again, !bit(i))
		s.Push(!bit(i))
	}
	holds(t, s, again)
	for len(again) > 0 {
		again = pops(t, s, again)
	}
	holds(t, s, nil)
}

// P1: to and fro over an edge of words takes no longer the more bits are below.
func TestToAndFroOverAnEdge(t *testing.T) {
	const below, often = 1 << 20, 1 << 20
	all := list(below, patterns["every third"])
	s := stack(all)
	for i := range often {
		s.Push(i%2 == 0)
		if b, ok := s.Pop(); b != (i%2 == 0) || !ok {
			t.Fatalf("Pop %d = %v, %v", i, b, ok)
		}
	}
	holds(t, s, all)
}
