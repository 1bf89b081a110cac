package truth_test

import (
	"math/rand"
	"testing"

	"riffle/truth"
)

// told is one thing by the chapter's words: what it is, and of which told
// things, by their places in the list of all that were told.
type told struct {
	kind   byte // '0' No, '1' Yes, 'v' a Var's, 'a' an And, 'o' an Or
	of     []int
	number int // which number the book has for it
	value  int // a Var's value
}

// model is a book beside what the chapter's words say of it.
type model struct {
	t    *testing.T
	b    *truth.Book
	told []told
	len  int
}

// begin is a new book, with No, Yes, and a number that is none of its own.
func begin(t *testing.T) *model {
	m := &model{t: t, b: truth.New(), len: 2}
	m.told = append(m.told, told{kind: '0', number: m.b.No()}, told{kind: '1', number: m.b.Yes()}, told{kind: '0', number: -1})
	return m
}

// value is what the words say that a told thing's value is now.
func (m *model) value(i int, known map[int]int) int {
	if v, ok := known[i]; ok {
		return v
	}
	g := m.told[i]
	value := truth.False
	switch g.kind {
	case '1':
		value = truth.True
	case 'v':
		value = g.value
	case 'a':
		value = truth.True
		for _, of := range g.of {
			value = both[value][m.value(of, known)]
		}
	case 'o':
		for _, of := range g.of {
			value = one[value][m.value(of, known)]
		}
	}
	known[i] = value
	return value
}

// check holds all that the book tells against the words.
func (m *model) check() {
	m.t.Helper()
	known := map[int]int{}
	for i, g := range m.told {
		if got, want := m.b.Value(g.number), m.value(i, known); got != want {
			m.t.Fatalf("thing %d (%c of %v, told as %d): Value = %d, want %s", g.number, g.kind, g.of, i, got, names[want])
		}
	}
	if m.b.Len() != m.len {
		m.t.Fatalf("Len = %d, want %d", m.b.Len(), m.len)
	}
	for _, n := range []int{-1, m.len, m.len + 1} {
		if m.b.Value(n) != truth.False {
			m.t.Fatalf("Value(%d) = %d, of a number that is none of the book's", n, m.b.Value(n))
		}
	}
}

// tell puts what the book answered at the end of what was told, and holds its
// number against how many things there were.
func (m *model) tell(g told, more int) int {
	m.t.Helper()
	now := m.b.Len()
	if now < m.len || now > m.len+more || g.number < 0 || g.number >= now {
		m.t.Fatalf("%c of %v: %d, Len from %d to %d", g.kind, g.of, g.number, m.len, now)
	}
	if g.kind == 'v' && (g.number != m.len || now != m.len+1) {
		m.t.Fatalf("Var: %d, Len from %d to %d", g.number, m.len, now)
	}
	m.len = now
	m.told = append(m.told, g)
	return len(m.told) - 1
}

// variable, and and or call the book and tell what it answered.
func (m *model) variable() int { return m.tell(told{kind: 'v', number: m.b.Var()}, 1) }

func (m *model) and(i, j int) int {
	return m.tell(told{kind: 'a', of: []int{i, j}, number: m.b.And(m.told[i].number, m.told[j].number)}, 1)
}

func (m *model) or(l ...int) int {
	of := append([]int(nil), l...)
	numbers := make([]int, len(l))
	for k, i := range l {
		numbers[k] = m.told[i].number
	}
	n := m.b.Or(numbers...)
	for k := range numbers {
		numbers[k] = m.b.Yes()
	}
	return m.tell(told{kind: 'o', of: of, number: n}, len(l))
}

// set sets a number, which is right for a Var's thing that wasn't Set alone.
func (m *model) set(number int, yes bool) {
	m.t.Helper()
	want := false
	for i := range m.told {
		if g := &m.told[i]; g.kind == 'v' && g.number == number && g.value == truth.Unknown {
			want = true
			g.value = truth.False
			if yes {
				g.value = truth.True
			}
		}
	}
	if got := m.b.Set(number, yes); got != want {
		m.t.Fatalf("Set(%d, %v) = %v", number, yes, got)
	}
}

// P18.1 to P18.3: all small books of two or three Vars and two Ands and Ors, with
// each Var Set ahead, between or behind, or not at all.
func TestAllSmall(t *testing.T) {
	for kinds := range 4 {
		t.Run("kinds "+string(rune('0'+kinds)), func(t *testing.T) {
			t.Parallel()
			for when := range 7 * 7 * 7 {
				for i := range 6 {
					for j := range i + 1 {
						small(t, kinds, when, i, j)
					}
				}
			}
		})
	}
}

// small goes through all books whose first And or Or is of two given things.
func small(t *testing.T, kinds, when, i, j int) {
	t.Helper()
	for k := range 7 {
		for l := range k + 1 {
			m := begin(t)
			for range 3 {
				m.variable()
			}
			m.sets(when, 0)
			m.join(kinds&1 != 0, i, j)
			m.sets(when, 1)
			m.check()
			m.join(kinds&2 != 0, l, k)
			m.sets(when, 2)
			m.check()
		}
	}
}

// join is an And or an Or of two.
func (m *model) join(and bool, i, j int) {
	if and {
		m.and(i, j)
	} else {
		m.or(i, j)
	}
}

// sets sets those of three Vars whose turn it is: when has of each one, in
// sevenths, at which of three times, and to which value; the last is never.
func (m *model) sets(when, now int) {
	m.t.Helper()
	for v := range 3 {
		if turn := when % 7; turn/2 == now {
			m.set(m.told[3+v].number, turn%2 == 1)
		}
		when /= 7
	}
}

// P18.1 to P18.3: many long rows of calls, wrong ones among them, in any order.
func TestLongRows(t *testing.T) {
	for seed := range 400 {
		r := rand.New(rand.NewSource(int64(seed)))
		m := begin(t)
		near := 1 + r.Intn(40) // how far back what is joined may be
		for range 120 {
			pick := func() int { return max(r.Intn(len(m.told)), len(m.told)-1-r.Intn(near)) }
			switch r.Intn(8) {
			case 0, 1:
				m.variable()
			case 2, 3:
				m.and(pick(), pick())
			case 4, 5:
				var l []int
				for range r.Intn(6) {
					l = append(l, pick())
				}
				m.or(l...)
			case 6:
				m.set(m.told[pick()].number, r.Intn(2) == 0)
			default:
				m.set(r.Intn(m.len+4)-2, r.Intn(2) == 0)
			}
			m.check()
		}
		m.all(r)
	}
}

// all sets all Vars that aren't Set, in any order: then nothing is Unknown.
func (m *model) all(r *rand.Rand) {
	m.t.Helper()
	for _, i := range r.Perm(len(m.told)) {
		if m.told[i].kind == 'v' {
			m.set(m.told[i].number, r.Intn(2) == 0)
			m.check()
		}
	}
	for n := range m.len {
		if m.b.Value(n) == truth.Unknown {
			m.t.Fatalf("thing %d is Unknown, though all Vars are Set", n)
		}
	}
}
