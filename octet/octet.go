// Package octet is layer 1: see shared/doc/01-octet.md.
package octet

// The kinds of bytes.
const (
	Other = iota
	Blank
	OpenArray
	CloseArray
	OpenObject
	CloseObject
	Comma
	Colon
	Mark
	Numeral
	Letter
)

// hexSigns has the sign of each number of 16 at that number.
const hexSigns = "0123456789abcdef"

// Kind: what a byte begins.
func Kind(c byte) int {
	switch c {
	case ' ', '\t', '\n', '\r':
		return Blank
	case '[':
		return OpenArray
	case ']':
		return CloseArray
	case '{':
		return OpenObject
	case '}':
		return CloseObject
	case ',':
		return Comma
	case ':':
		return Colon
	case '"':
		return Mark
	case '-':
		return Numeral
	case 't', 'f', 'n':
		return Letter
	}
	if Digit(c) {
		return Numeral
	}
	return Other
}

// Digit: is it a digit?
func Digit(c byte) bool { return '0' <= c && c <= '9' }

// Hex: which number of 16.
func Hex(c byte) (int, bool) {
	sign := small(c)
	for n := range len(hexSigns) {
		if sign == hexSigns[n] {
			return n, true
		}
	}
	return 0, false
}

// Alpha: is it a letter?
func Alpha(c byte) bool { return 'a' <= c && c <= 'z' || 'A' <= c && c <= 'Z' }

// Lower: a number's sign.
func Lower(n int) byte {
	if n < 0 || n >= len(hexSigns) {
		return '0'
	}
	return hexSigns[n]
}

// small changes capital letters alone: the bit that tells a capital from a small
// letter tells other bytes apart elsewhere, such as 16 from '0'.
func small(c byte) byte {
	if 'A' <= c && c <= 'Z' {
		return c - 'A' + 'a'
	}
	return c
}
