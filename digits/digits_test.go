package digits_test

import (
	"math"
	"math/big"
	"math/rand"
	"regexp"
	"strings"
	"testing"

	"passbook/api"
	"passbook/digits"
)

var (
	greatest = api.Dec{Hi: math.MaxInt64, Lo: math.MaxUint64}
	least    = api.Dec{Hi: math.MinInt64, Lo: 1}
)

const greatestDigits = "170141183460469231731687303715884105727"

func d(n int64, scale int) api.Dec { return api.Dec{Hi: n >> 63, Lo: uint64(n), Scale: scale} }

func at(x api.Dec, scale int) api.Dec {
	x.Scale = scale
	return x
}

func checkWrite(t *testing.T, x api.Dec, want string, wantE api.Errno) {
	t.Helper()
	if got, e := digits.Write(x); got != want || e != wantE {
		t.Errorf("Write(%v) = %q, error %d; want %q, error %d", x, got, e, want, wantE)
	}
}

func checkParse(t *testing.T, s string, want api.Dec, wantAt int, wantE api.Errno) {
	t.Helper()
	if got, at, e := digits.Parse(s); got != want || at != wantAt || e != wantE {
		t.Errorf("Parse(%q) = %v, place %d, error %d; want %v, %d, %d", s, got, at, e, want, wantAt, wantE)
	}
}

func checkFault(t *testing.T, s string, place int) {
	t.Helper()
	checkParse(t, s, api.Dec{}, place, api.ErrText)
}

// texts: Decs and their texts, both ways.
func texts() map[string]api.Dec {
	return map[string]api.Dec{
		"0.05": d(5, 2), "-12.0": d(-120, 1), "0.000": d(0, 3), "0": d(0, 0), "0.0": d(0, 1), "7": d(7, 0), "-7": d(-7, 0),
		"1.0": d(10, 1), "1.00": d(100, 2), "10": d(10, 0), "100": d(100, 0), "-0.1": d(-1, 1), "-0.01": d(-1, 2), "0.10": d(10, 2),
		"0.000000000000000000":                      d(0, 18),
		"0.000000000000000001":                      d(1, 18),
		"-0.000000000000000001":                     d(-1, 18),
		"1.000000000000000000":                      d(1000000000000000000, 18),
		"9223372036854775807":                       d(math.MaxInt64, 0),
		"-9223372036854775808":                      d(math.MinInt64, 0),
		"18446744073709551615":                      {Lo: math.MaxUint64},
		"18446744073709551616":                      {Hi: 1},
		"-18446744073709551616":                     {Hi: -1},
		"-1844674407370955161.7":                    {Hi: -2, Lo: math.MaxUint64, Scale: 1},
		greatestDigits:                              greatest,
		"-" + greatestDigits:                        least,
		"170141183460469231731.687303715884105727":  at(greatest, 18),
		"-170141183460469231731.687303715884105727": at(least, 18),
		"-17014118346046923173168730371588410572.7": at(least, 1),
	}
}

func TestTexts(t *testing.T) { // P2.1, P2.2
	for s, x := range texts() {
		checkWrite(t, x, s, api.OK)
		checkParse(t, s, x, 0, api.OK)
	}
}

// TestThereAndBack holds Write against texts that are made from whole numbers
// without bound, and Parse against Write.
func TestThereAndBack(t *testing.T) { // P2.1, P2.2
	source := rand.New(rand.NewSource(2))
	word := new(big.Int).Lsh(big.NewInt(1), 64)
	for range 20000 {
		n := new(big.Int).Rand(source, new(big.Int).Lsh(big.NewInt(1), uint(source.Intn(127)+1)))
		scale := source.Intn(api.MaxScale + 1)
		text := n.String()
		if short := scale + 1 - len(text); short > 0 {
			text = strings.Repeat("0", short) + text
		}
		if scale > 0 {
			text = text[:len(text)-scale] + "." + text[len(text)-scale:]
		}
		if n.Sign() > 0 && source.Intn(2) == 0 {
			n.Neg(n)
			text = "-" + text
		}
		hi, lo := new(big.Int).DivMod(n, word, new(big.Int))
		x := api.Dec{Hi: hi.Int64(), Lo: lo.Uint64(), Scale: scale}
		checkWrite(t, x, text, api.OK)
		checkParse(t, text, x, 0, api.OK)
	}
}

func TestWriteMalformed(t *testing.T) { // P2.1
	for _, x := range []api.Dec{
		{Hi: math.MinInt64}, {Hi: math.MinInt64, Scale: 18}, {Scale: -1}, {Scale: 19}, {Lo: 5, Scale: math.MaxInt}, {Lo: 5, Scale: math.MinInt},
		{Hi: math.MinInt64, Scale: 19},
	} {
		checkWrite(t, x, "", api.ErrForm)
	}
}

func TestFaultExamples(t *testing.T) { // P2.2
	for s, place := range map[string]int{
		"007": 1, "1.": 2, "-0.00": 0, "": 0, "+1": 0, ".5": 0, "1,5": 1, "0." + strings.Repeat("1", 19): 20,
		"-": 1, "--1": 1, "-.5": 1, "-x": 1, "-0": 0, "-00": 2, "-0.": 3, "-0.0x": 4, "00": 1, "0x": 1, "01": 1, "-01": 2,
		"1..5": 2, "1.5.": 3, "1.-5": 2, "1-": 1, "1 ": 1, " 1": 0, "1\n": 1, "1e5": 1, "0x10": 1, "1_000": 1, "1.x": 2,
		"\x00": 0, "1\x00": 1, "\xff": 0, "1\xff": 1, "１": 0, "1.５": 2, "−1": 0,
		"-0." + strings.Repeat("0", 18):       0,
		"-0." + strings.Repeat("0", 18) + "0": 21,
		"1." + strings.Repeat("0", 18) + ".":  20,
	} {
		checkFault(t, s, place)
	}
}

func TestRangeOfTexts(t *testing.T) { // P2.2
	for _, s := range []string{
		strings.Repeat("9", 40),
		"170141183460469231731687303715884105728",                // 2^127
		"-170141183460469231731687303715884105728",               // -2^127
		"170141183460469231731.687303715884105728",               // too great in its digits, not in its worth
		"340282366920938463463374607431768211456",                // 2^128
		"-340282366920938463463374607431768211457",               // -2^128 - 1
		"1701411834604692317316873037158841057270",               // ten times the greatest
		"999999999999999999999.000000000000000000",               // 39 digits
		"115792089237316195423570985008687907853269984665640564", // a part of 2^256
		"1" + strings.Repeat("0", 63),
		"-" + strings.Repeat("9", 63),
		strings.Repeat("9", 45) + "." + strings.Repeat("0", 18),
	} {
		checkParse(t, s, api.Dec{}, 0, api.ErrRange)
	}
	// A fault of the text is told, though its digits are too great as well.
	checkFault(t, strings.Repeat("9", 40)+"x", 40)
	checkFault(t, strings.Repeat("9", 40)+".", 41)
	checkFault(t, "-"+strings.Repeat("9", 40)+"-", 41)
	checkFault(t, strings.Repeat("9", 40)+"."+strings.Repeat("0", 19), 59)
}

func TestLengthOfTexts(t *testing.T) { // P2.2: of 64 bytes, and of 65
	nines := strings.Repeat("9", 63)
	checkParse(t, nines+"9", api.Dec{}, 0, api.ErrRange)
	checkFault(t, nines+"x", 63)
	checkFault(t, nines+".", 64)
	checkFault(t, "x"+nines, 0)
	checkFault(t, "0"+nines, 1)
	checkFault(t, "-0"+nines[:62], 2)
	checkFault(t, "0."+nines[:62], 20)
	checkFault(t, strings.Repeat("0", 64), 1)
	for _, s := range []string{nines + "99", nines + "9x", "x9" + nines, strings.Repeat("0", 65), strings.Repeat("x", 100000)} {
		checkParse(t, s, api.Dec{}, 0, api.ErrLong)
	}
}

// beginning is what a text can begin with, as the document has it; whole is a
// text, but for a minus in front of noughts.
var (
	beginning = regexp.MustCompile(`^(-?|-?(0|[1-9][0-9]*)(\.[0-9]{0,18})?)$`)
	whole     = regexp.MustCompile(`^-?(0|[1-9][0-9]*)(\.[0-9]{1,18})?$`)
	noughts   = regexp.MustCompile(`^-[0.]*$`)
)

// checkPlace works a fault's place out from all the beginnings of s.
func checkPlace(t *testing.T, s string) {
	t.Helper()
	for place := range len(s) {
		if !beginning.MatchString(s[:place+1]) {
			checkFault(t, s, place)
			return
		}
	}
	switch {
	case !whole.MatchString(s):
		checkFault(t, s, len(s))
	case noughts.MatchString(s):
		checkFault(t, s, 0)
	default:
		x, _, e := digits.Parse(s)
		if e != api.OK {
			t.Errorf("Parse(%q): error %d", s, e)
		}
		checkWrite(t, x, s, api.OK)
		checkParse(t, s, x, 0, api.OK)
	}
}

func TestEveryShortText(t *testing.T) { // P2.2
	front := []string{""}
	for range 7 {
		var longer []string
		for _, s := range front {
			checkPlace(t, s)
			for _, b := range "-0.19x" {
				longer = append(longer, s+string(b))
			}
		}
		front = longer
	}
}

func TestEveryByteAtEveryPlace(t *testing.T) { // P2.2
	for _, s := range []string{"-120.045", "0.00", "-0.000000000000000010", "100", "17014118346046923173.1687"} {
		for place := range len(s) + 1 {
			checkPlace(t, s[:place])
			for b := range 256 {
				checkPlace(t, s[:place]+string([]byte{byte(b)})+s[place:])
				if place < len(s) {
					checkPlace(t, s[:place]+string([]byte{byte(b)})+s[place+1:])
				}
			}
		}
	}
}
