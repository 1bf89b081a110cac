package octet_test

import (
	"math"
	"testing"

	"riffle/octet"
)

// The chapter gives each kind a number: other layers, and those who use the program, count on it.
func TestKindsAreNumberedAsTheChapterSays(t *testing.T) {
	got := []int{
		octet.Other, octet.Blank, octet.OpenArray, octet.CloseArray, octet.OpenObject, octet.CloseObject,
		octet.Comma, octet.Colon, octet.Mark, octet.Numeral, octet.Letter,
	}
	for want, kind := range got {
		if kind != want {
			t.Errorf("kind %d has the number %d", want, kind)
		}
	}
}

// P1.1: each byte that has a kind; all others are of none.
func TestKindOfEachByte(t *testing.T) {
	want := map[byte]int{
		32: 1, 9: 1, 10: 1, 13: 1,
		'[': 2, ']': 3, '{': 4, '}': 5, ',': 6, ':': 7, '"': 8,
		'-': 9, '0': 9, '1': 9, '2': 9, '3': 9, '4': 9, '5': 9, '6': 9, '7': 9, '8': 9, '9': 9,
		't': 10, 'f': 10, 'n': 10,
	}
	for c := range 256 {
		if got := octet.Kind(byte(c)); got != want[byte(c)] {
			t.Errorf("Kind(%d) = %d, want %d", c, got, want[byte(c)])
		}
	}
}

// P1.1: bytes just beside those that have a kind, and such as look alike, are Other.
func TestKindBesideIsOther(t *testing.T) {
	beside := []byte{
		0, 8, 11, 12, 14, 31, 33, // blanks
		'Z', '\\', '^', 'z', '|', '~', // brackets
		'+', '.', '/', ';', // signs around the numbers
		'!', '#', '\'', '`', // marks
		'e', 'g', 'm', 'o', 's', 'u', 'T', 'F', 'N', // letters
		127, 128, 0x85, 0xA0, 0xC3, 0xEF, 0xFF, // beyond ASCII no byte is a blank
	}
	for _, c := range beside {
		if got := octet.Kind(c); got != octet.Other {
			t.Errorf("Kind(%d) = %d, want Other", c, got)
		}
	}
}

// P1.2: Digit.
func TestDigit(t *testing.T) {
	for c := range 256 {
		want := c >= 48 && c <= 57
		if got := octet.Digit(byte(c)); got != want {
			t.Errorf("Digit(%d) = %v, want %v", c, got, want)
		}
	}
}

// P1.2: Hex of each byte that is a digit of 16; 0 and false of all others.
func TestHex(t *testing.T) {
	want := map[byte]int{
		'0': 0, '1': 1, '2': 2, '3': 3, '4': 4, '5': 5, '6': 6, '7': 7, '8': 8, '9': 9,
		'a': 10, 'b': 11, 'c': 12, 'd': 13, 'e': 14, 'f': 15,
		'A': 10, 'B': 11, 'C': 12, 'D': 13, 'E': 14, 'F': 15,
	}
	for c := range 256 {
		n, ok := octet.Hex(byte(c))
		number, is := want[byte(c)]
		if n != number || ok != is {
			t.Errorf("Hex(%d) = %d, %v, want %d, %v", c, n, ok, number, is)
		}
	}
}

// P1.2: a byte that differs from a digit of 16 by one bit alone, or stands just beside one, is none.
func TestHexBeside(t *testing.T) {
	for _, c := range []byte{16, 25, 1, 6, '/', ':', '@', 'G', '`', 'g', 'x', 'X', '-', 0, 176, 193, 225, 255} {
		if n, ok := octet.Hex(c); n != 0 || ok {
			t.Errorf("Hex(%d) = %d, %v, want 0, false", c, n, ok)
		}
	}
}

// P1.2: Alpha.
func TestAlpha(t *testing.T) {
	for c := range 256 {
		want := c >= 65 && c <= 90 || c >= 97 && c <= 122
		if got := octet.Alpha(byte(c)); got != want {
			t.Errorf("Alpha(%d) = %v, want %v", c, got, want)
		}
	}
}

// P1.2: Lower of each number that has a sign.
func TestLower(t *testing.T) {
	const signs = "0123456789abcdef"
	for n := range 16 {
		if got := octet.Lower(n); got != signs[n] {
			t.Errorf("Lower(%d) = %q, want %q", n, got, signs[n])
		}
	}
}

// P1.2 and P1: numbers outside of 0 to 15 have the sign 0, however far outside they are.
func TestLowerOfOthers(t *testing.T) {
	others := []int{-1, -2, -15, -16, 16, 17, 31, 32, 255, 256, -256, 1 << 32, -1 << 32, 1<<32 + 10, math.MaxInt64, math.MinInt64}
	for _, n := range others {
		if got := octet.Lower(n); got != '0' {
			t.Errorf("Lower(%d) = %q, want 0", n, got)
		}
	}
}

// P1.2: Lower and Hex undo one another.
func TestLowerAndHexUndoOneAnother(t *testing.T) {
	for n := range 16 {
		if got, ok := octet.Hex(octet.Lower(n)); got != n || !ok {
			t.Errorf("Hex(Lower(%d)) = %d, %v", n, got, ok)
		}
	}
}

// answers is all that the layer tells of a byte.
type answers struct {
	kind, hex           int
	digit, isHex, alpha bool
	lower               byte
}

func ask(c int) answers {
	n, ok := octet.Hex(byte(c))
	return answers{octet.Kind(byte(c)), n, octet.Digit(byte(c)), ok, octet.Alpha(byte(c)), octet.Lower(c - 128)}
}

// P2: no call changes what a later one answers, whichever way the bytes are gone through.
func TestAnswersHangOnArgumentsAlone(t *testing.T) {
	var first [256]answers
	for c := range 256 {
		first[c] = ask(c)
	}
	for c := 255; c >= 0; c-- {
		if got := ask(c); got != first[c] {
			t.Errorf("of %d %v at first, then %v", c, first[c], got)
		}
	}
}
