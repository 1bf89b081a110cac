package query_test

import (
	"math/big"
	"regexp"
	"strconv"
	"strings"
	"testing"

	"riffle/api"
	"riffle/query"
)

// integers have all integers that the chapter names, with others beside them.
var integers = map[string]int{
	"0": 0, "1": 1, "-1": -1, "2": 2, "9": 9, "-9": -9, "10": 10, "-10": -10, "19": 19, "100": 100, "-1000": -1000, "42": 42, "1234567890": 1234567890, "4294967296": 1 << 32, "-4294967297": -1<<32 - 1,
	greatest: 1<<53 - 1, "-" + greatest: -(1<<53 - 1), "9007199254740990": 1<<53 - 2, "-9007199254740990": -(1<<53 - 2), "8999999999999999": 8999999999999999, "1000000000000000": 1e15,
}

// outside are integers beyond the range: by one, by few and by very many digits, and such as wrap round to ones within it.
func outside() []string {
	all := []string{beyond, "9007199254740993", "9007199254740999", "9007199254741000", "9999999999999999", "10000000000000000", "90071992547409910", "9223372036854775807", "9223372036854775808", "18446744073709551615", "18446744073709551616", "18446744073709551617", "184467440737095516160", "36893488147419103233", "123456789012345678901", "340282366920938463463374607431768211457"}
	for _, n := range []int{20, 100, 10000} {
		all = append(all, strings.Repeat("9", n), "1"+strings.Repeat("0", n))
	}
	return all
}

// wrong aren't integers, though some begin with one.
var wrong = []string{"-0", "00", "01", "007", "-00", "-01", "0-1", "+0", "+1", "-", "--", "--1", "-+1", "1-", "1-2", "- 1", "-\t1", "1 2", "1.0", "1.", ".5", "1e1", "1E1", "1e0", "0x1", "0b1", "1_0", "1a", "a1", "\u0661", "\uff11", "1\u0661", "1\x00", "\u22121", "1'", "Infinity", "NaN"}

// intIs tells what Int answers.
func intIs(t *testing.T, s string, v, n int, ok bool) {
	t.Helper()
	if gotV, gotN, gotOk := query.Int(s); gotV != v || gotN != n || gotOk != ok {
		t.Fatalf("Int(%.60q) = %d, %d, %v, want %d, %d, %v", s, gotV, gotN, gotOk, v, n, ok)
	}
}

// P14.3: Int of integers, with nothing and with anything behind them.
func TestInt(t *testing.T) {
	for s, want := range integers {
		intIs(t, s, want, len(s), true)
		for _, tail := range []string{"-", "-1", " ", " 1", ":", ",", "]", ".", ".0", "e1", "E", "a", "_", "+", "'", "\x00", "\x80", "\xff", "\u0661", "\u20ac", "/", ";", ":1:2", "x9"} {
			intIs(t, s+tail, want, len(s), true)
		}
		intIs(t, " "+s, 0, 0, false)
		intIs(t, "+"+s, 0, 0, false)
		intIs(t, "--"+s, 0, 0, false)
		intIs(t, "-+"+s, 0, 0, false)
		intIs(t, "- "+s, 0, 0, false)
		intIs(t, "0"+s, 0, 1, true) // a 0 ends the integer, whatever is behind it
		intIs(t, "-0"+s, 0, 0, false)
	}
	for _, s := range []string{"", "-", "--", "- ", "-a", "-:", "-]", "-\xff", "+", "a", " ", ":", "]", "'0'", ".5", "\x00", "\xff", "\u0660", "\uff10", "\u22121", "/", ";", "-/", "-;"} {
		intIs(t, s, 0, 0, false)
	}
	for _, s := range []string{"0", "00", "000", "01", "0123", "0-", "0.5", "0:", "0x", "0" + beyond, "0" + strings.Repeat("9", 1000)} {
		intIs(t, s, 0, 1, true)
	}
	for _, s := range []string{"-0", "-00", "-01", "-0:", "-0.5", "-0" + greatest, "-0" + strings.Repeat("9", 1000)} {
		intIs(t, s, 0, 0, false)
	}
}

// P14.3: the number of the longest beginning is beyond the range: no shorter one is taken.
func TestIntBeyond(t *testing.T) {
	for _, s := range outside() {
		for _, tail := range []string{"", ":", "]", " ", "a", ".", "\xff"} {
			intIs(t, s+tail, 0, 0, false)
			intIs(t, "-"+s+tail, 0, 0, false)
		}
	}
}

// integer is how an integer is written, of whatever number.
var integer = regexp.MustCompile(`^(0|-?[1-9][0-9]*)`)

// intByWords is Int, by the chapter's words.
func intByWords(s string) (v, n int, ok bool) {
	text := integer.FindString(s)
	number, ok := new(big.Int).SetString(text, 10)
	if !ok || number.CmpAbs(big.NewInt(1<<53-1)) > 0 {
		return 0, 0, false
	}
	return int(number.Int64()), len(text), true
}

// P14.3: numbers beside each number of bits and of digits, and all short texts.
func TestIntByWords(t *testing.T) {
	check := func(s string) {
		v, n, ok := intByWords(s)
		intIs(t, s, v, n, ok)
	}
	for bit := range uint(140) {
		for beside := int64(-20); beside <= 20; beside++ {
			for _, base := range []*big.Int{new(big.Int).Lsh(big.NewInt(1), bit), new(big.Int).Exp(big.NewInt(10), big.NewInt(int64(bit)), nil)} {
				s := new(big.Int).Add(base, big.NewInt(beside)).String()
				for _, all := range []string{s, "-" + s, "0" + s, s + "0", s + ":1", "-" + s + "]", s + "\xff"} {
					check(all)
				}
			}
		}
	}
	short := []string{""}
	for range 4 {
		var longer []string
		for _, s := range short {
			for _, c := range "-0159:. a/\u0661" {
				check(s + string(c))
				check("-900719925474099" + s + string(c))
				longer = append(longer, s+string(c))
			}
		}
		short = longer
	}
}

// P14.3: each byte ahead of digits, among them and behind them.
func TestIntOfBytes(t *testing.T) {
	for c := range 256 {
		b := string([]byte{byte(c)})
		for _, s := range []string{b, b + "5", "5" + b, "5" + b + "5", "-" + b, "-" + b + "5", "-5" + b + "5", "0" + b, "0" + b + "5", b + b} {
			v, n, ok := intByWords(s)
			intIs(t, s, v, n, ok)
		}
	}
}

// P14.1: indices.
func TestIndices(t *testing.T) {
	for s, want := range integers {
		reads(t, "$["+s+"]", of(index(want)))
		reads(t, "$..[ "+s+" ,\n"+s+"\t]", below(index(want), index(want)))
	}
	for _, s := range wrong {
		refused(t, "$["+s+"]", "$..["+s+"]", "$[ "+s+" ]", "$[0,"+s+"]", "$["+s+",0]", "$['a',"+s+"]")
	}
	for _, s := range outside() {
		refused(t, "$["+s+"]", "$[-"+s+"]", "$..["+s+"]", "$[0,"+s+"]", "$[-"+s+",0]")
	}
}

// P14.1 and P14.2: slices with each of the three integers there and not, and blanks between each two parts.
func TestSlices(t *testing.T) {
	for _, b := range []string{"", " ", "\t", "\n", "\r", " \r\n\t "} {
		for text, n := range integers {
			reads(t, "$["+text+b+":]", of(from(n, stride(1))))
			reads(t, "$[:"+b+text+"]", of(to(n, stride(1))))
			reads(t, "$[:"+b+":"+b+text+"]", of(stride(n)))
			for other, m := range map[string]int{"0": 0, "7": 7, "-3": -3, greatest: 1<<53 - 1} {
				reads(t, "$["+text+b+":"+b+other+"]", of(from(n, to(m, stride(1)))))
				reads(t, "$["+text+b+":"+b+other+b+":]", of(from(n, to(m, stride(1)))))
				reads(t, "$["+text+b+":"+b+":"+b+other+"]", of(from(n, stride(m))))
				reads(t, "$[:"+b+text+b+":"+b+other+"]", of(to(n, stride(m))))
				reads(t, "$["+b+other+b+":"+b+text+b+":"+b+other+b+"]", of(from(m, to(n, stride(m)))))
				reads(t, "$..["+other+":"+other+b+":"+text+b+","+b+text+b+":"+other+"]", below(from(m, to(m, stride(n))), from(n, to(m, stride(1)))))
			}
			reads(t, "$["+text+b+":"+b+":]", of(from(n, stride(1))))
			reads(t, "$[:"+b+text+b+":]", of(to(n, stride(1))))
		}
		reads(t, "$["+b+":"+b+"]", of(stride(1)))
		reads(t, "$["+b+":"+b+":"+b+"]", of(stride(1)))
		refused(t, "$["+b+":"+b+":"+b+":"+b+"]", "$[1"+b+":2"+b+":3"+b+":4]", "$[1:2:3:]", "$[:::]", "$[1:::]", "$[:1::]", "$[::1:]", "$[:::1]", "$[1"+b+"2"+":"+b+"-]")
	}
	refused(t, "$[1 2:]", "$[:1 2]", "$[::1 2]", "$[1:2 3]", "$[1:2:3 4]", "$[1:2 3:4]", "$[1;2]", "$[1:2;3]", "$[1..2]", "$[1,:,]", "$[:,]", "$[,:]", "$.1:2", "$.:", "$:", "$1:2", "$['a':1]", "$[1:'a']", "$[*:1]", "$[1:*]", "$[1::*]", "$[:a]", "$[a:]", "$[::a]", "$[1:2")
	for _, n := range []int{-2, -1, 0, 1, 2, api.MaxInt, -api.MaxInt} {
		reads(t, "$[::"+strconv.Itoa(n)+"]", of(stride(n)))
	}
}

// P14.1: what is no integer, or one beyond the range, in each place of a slice.
func TestWrongSlices(t *testing.T) {
	places := []string{"$[#:]", "$[:#]", "$[::#]", "$[#:1]", "$[1:#]", "$[#::]", "$[#::1]", "$[1::#]", "$[:#:]", "$[:#:1]", "$[:1:#]", "$[#:1:2]", "$[1:#:2]", "$[1:2:#]", "$[ # : # : # ]", "$[0,#:]", "$[:#,0]", "$..[::#]"}
	all := append([]string{}, wrong...)
	for _, s := range outside() {
		all = append(all, s, "-"+s)
	}
	for _, s := range all {
		for _, place := range places {
			refused(t, strings.ReplaceAll(place, "#", s))
		}
	}
}
