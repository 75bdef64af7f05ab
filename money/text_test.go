package money_test

import (
	"math/big"
	"math/rand"
	"regexp"
	"strings"
	"testing"

	"passbook/api"
	"passbook/money"
)

// shape: what a text looks like, but for a minus in front of nought, and for its range.
var shape = regexp.MustCompile(`\A((EUR|USD) -?(0|[1-9][0-9]*)\.[0-9]{2}|JPY -?(0|[1-9][0-9]*)|KWD -?(0|[1-9][0-9]*)\.[0-9]{3})\z`)

func wantParse(s string) (api.Money, api.Errno) {
	if len(s) > 64 {
		return api.Money{}, api.ErrLong
	}
	if !shape.MatchString(s) {
		return api.Money{}, api.ErrText
	}
	n, _ := new(big.Int).SetString(strings.ReplaceAll(s[4:], ".", ""), 10)
	if n.CmpAbs(power(13)) > 0 || n.Sign() == 0 && s[4] == '-' {
		return api.Money{}, api.ErrText
	}
	return m(strings.Index("EURUSDJPYKWD", s[:3])/3, n.Int64()), api.OK
}

func checkParse(t *testing.T, s string) {
	t.Helper()
	got, e := money.Parse(s)
	want, wantE := wantParse(s)
	if got != want || e != wantE {
		t.Fatalf("Parse(%q) = %v, error %d; want %v, error %d", s, got, e, want, wantE)
	}
}

func checkText(t *testing.T, x api.Money, s string) {
	t.Helper()
	if got, e := money.Write(x); got != s || e != api.OK {
		t.Errorf("Write(%v) = %q, error %d; want %q", x, got, e, s)
	}
	got, e := money.Parse(s)
	same(t, "Parse("+s+")", got, x, e, api.OK)
}

func texts() map[string]api.Money {
	return map[string]api.Money{
		"JPY 12": m(api.JPY, 12), "JPY 0": m(api.JPY, 0), "JPY -1": m(api.JPY, -1), "JPY 100": m(api.JPY, 100),
		"EUR 0.00": m(api.EUR, 0), "EUR 0.05": m(api.EUR, 5), "EUR 1.50": m(api.EUR, 150), "EUR -12.34": m(api.EUR, -1234),
		"USD -0.05": m(api.USD, -5), "USD 10.00": m(api.USD, 1000), "USD 0.99": m(api.USD, 99),
		"KWD 0.000": m(api.KWD, 0), "KWD 1.500": m(api.KWD, 1500), "KWD -0.001": m(api.KWD, -1), "KWD 100.010": m(api.KWD, 100010),
		"EUR 100000000000.00": m(api.EUR, api.MaxMinor), "EUR -100000000000.00": m(api.EUR, -api.MaxMinor),
		"USD 99999999999.99": m(api.USD, api.MaxMinor-1), "USD -100000000000.00": m(api.USD, -api.MaxMinor),
		"JPY 10000000000000": m(api.JPY, api.MaxMinor), "JPY -10000000000000": m(api.JPY, -api.MaxMinor),
		"KWD 10000000000.000": m(api.KWD, api.MaxMinor), "KWD -10000000000.000": m(api.KWD, -api.MaxMinor),
	}
}

func TestTexts(t *testing.T) { // P5.4
	for s, x := range texts() {
		checkText(t, x, s)
	}
}

// wantText lays out the digits by hand: at least one in front of the point.
func wantText(x api.Money) string {
	own := digitsOf(x.Cur)
	sign, n := "", big.NewInt(x.Minor)
	if n.Sign() < 0 {
		sign = "-"
	}
	s := n.Abs(n).String()
	s = strings.Repeat("0", max(0, own+1-len(s))) + s
	whole, part := s[:len(s)-own], s[len(s)-own:]
	if own > 0 {
		part = "." + part
	}
	return nameOf(x.Cur) + " " + sign + whole + part
}

func TestThereAndBack(t *testing.T) { // P5.4
	list := minors()
	source := rand.New(rand.NewSource(1))
	for range 2000 {
		list = append(list, source.Int63n(2*api.MaxMinor+1)-api.MaxMinor, source.Int63n(20001)-10000)
	}
	for _, cur := range all() {
		for _, minor := range list {
			checkText(t, m(cur, minor), wantText(m(cur, minor)))
		}
	}
}

func TestWriteErrors(t *testing.T) { // P5.4
	for _, x := range malformed() {
		if got, e := money.Write(x); got != "" || e != api.ErrForm {
			t.Errorf("Write(%v) = %q, error %d", x, got, e)
		}
	}
}

func TestNoTexts(t *testing.T) { // P5.4
	for _, s := range []string{
		"", " ", "EUR", "EUR ", "EUR-1.00", "EUR1.00", "EU 1.00", "EURO 1.00", "eur 1.00", "Eur 1.00", "XXX 1.00", "GBP 1.00", "1.00", " 1.00", "0 1.00",
		"EUR  1.00", " EUR 1.00", "EUR 1.00 ", "EUR\t1.00", "EUR\u00a01.00", "EUR 1.00\n", "EUR 1.00\x00", "EUR 1.00 EUR", "1.00 EUR", "EUR EUR 1.00",
		"EUR 1", "EUR 1.", "EUR 1.5", "EUR 1.500", "USD 1", "USD 1.0", "USD 1.000", "JPY 1.0", "JPY 1.", "JPY 12.00", "KWD 1", "KWD 1.5", "KWD 1.50", "KWD 1.5000",
		"EUR 01.00", "EUR +1.00", "EUR .50", "EUR -.50", "EUR --1.00", "EUR -0.00", "JPY -0", "KWD -0.000", "EUR 1,00", "EUR 1 000.00", "JPY 00", "JPY 1e3", "EUR \u0661.00",
		"EUR 100000000000.01", "EUR -100000000000.01", "USD 100000000000.01", "JPY 10000000000001", "JPY -10000000000001", "KWD 10000000000.001", "KWD -10000000000.001",
		"JPY 9223372036854775808", "JPY 18446744073709551616", "JPY 18446744073709551617", "EUR 184467440737095516.16", "EUR -184467440737095516.16",
		"JPY 170141183460469231731687303715884105728", "EUR " + strings.Repeat("9", 57) + ".00", "JPY " + strings.Repeat("9", 60), "JPY " + strings.Repeat("0", 60),
	} {
		got, e := money.Parse(s)
		same(t, "Parse("+s+")", got, api.Money{}, e, api.ErrText)
		checkParse(t, s)
	}
}

func TestLongTexts(t *testing.T) { // P5.4: ErrLong ahead of ErrText
	for _, s := range []string{
		strings.Repeat("x", 65), strings.Repeat(" ", 65), "EUR " + strings.Repeat("9", 58) + ".00", "JPY " + strings.Repeat("9", 61),
		"EUR 1.00" + strings.Repeat(" ", 57), "EUR 1.00" + strings.Repeat("0", 57), "JPY " + strings.Repeat("0", 60) + "1", strings.Repeat("EUR 1.00", 10000),
	} {
		got, e := money.Parse(s)
		same(t, "Parse of a long text", got, api.Money{}, e, api.ErrLong)
	}
	got, e := money.Parse(strings.Repeat("x", 64))
	same(t, "Parse of 64 bytes", got, api.Money{}, e, api.ErrText)
}

// TestTextsWithAFault puts every byte at every place of texts, in place of the
// one there and in front of it, and takes each byte away.
func TestTextsWithAFault(t *testing.T) { // P5.4
	for s := range texts() {
		for i := range len(s) + 1 {
			for b := range 256 {
				checkParse(t, s[:i]+string([]byte{byte(b)})+s[i:])
				if i < len(s) {
					checkParse(t, s[:i]+string([]byte{byte(b)})+s[i+1:])
				}
			}
			checkParse(t, s[:i])
			if i < len(s) {
				checkParse(t, s[:i]+s[i+1:])
			}
		}
	}
}

// TestAllShortAmounts: all texts of up to six bytes behind each name.
func TestAllShortAmounts(t *testing.T) { // P5.4
	amounts := []string{""}
	for from := 0; len(amounts[from]) < 6; from++ {
		for _, b := range []string{"-", "0", ".", "7", " "} {
			amounts = append(amounts, amounts[from]+b)
		}
	}
	for _, s := range amounts {
		for _, name := range []string{"EUR ", "USD ", "JPY ", "KWD ", "XXX ", "EUR", ""} {
			checkParse(t, name+s)
		}
	}
}
