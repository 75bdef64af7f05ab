package stmt_test

import (
	"math/rand"
	"slices"
	"strings"
	"testing"

	"passbook/api"
	"passbook/stmt"
)

// example: the text of statement, which has all that a text can have.
const example = "account 10 EUR from 0001-02-09 to 0001-02-19 opening -2.50\n" +
	"3 0001-02-10 4 10.00 7.50\n" +
	"7 0001-02-13 5 -3.00 4.50\n" +
	"8 0001-02-13 14 -0.10 4.40\n" +
	"900 0001-02-16 12 9.00 13.40\n" +
	"closing 13.40\n"

func TestTexts(t *testing.T) { // P20.3
	writes(t, statement(), example)
	for _, c := range []struct {
		cur     int
		name    string
		amounts []string // of -MaxMinor, -1, 0, 5, 100, 1000, MaxMinor
	}{
		{api.EUR, "EUR", []string{"-100000000000.00", "-0.01", "0.00", "0.05", "1.00", "10.00", "100000000000.00"}},
		{api.USD, "USD", []string{"-100000000000.00", "-0.01", "0.00", "0.05", "1.00", "10.00", "100000000000.00"}},
		{api.JPY, "JPY", []string{"-10000000000000", "-1", "0", "5", "100", "1000", "10000000000000"}},
		{api.KWD, "KWD", []string{"-10000000000.000", "-0.001", "0.000", "0.005", "0.100", "1.000", "10000000000.000"}},
	} {
		for i, n := range []int64{-minor, -1, 0, 5, 100, 1000, minor} {
			s := stmt.Statement{Account: 1000000000, Cur: c.cur, From: 1, To: lastDay, Opening: n, Closing: n}
			writes(t, s, "account 1000000000 "+c.name+" from 0001-01-01 to 9999-12-31 opening "+c.amounts[i]+"\nclosing "+c.amounts[i]+"\n")
			if n == 0 {
				continue
			}
			s.Opening, s.Lines = 0, []stmt.Line{{Seq: 1000000000000, Day: lastDay, Op: api.OpStep, Change: n, Balance: n}}
			writes(t, s, "account 1000000000 "+c.name+" from 0001-01-01 to 9999-12-31 opening "+c.amounts[2]+
				"\n1000000000000 9999-12-31 14 "+c.amounts[i]+" "+c.amounts[i]+"\nclosing "+c.amounts[i]+"\n")
		}
	}
}

// TestAllOps: each as its number.
func TestAllOps(t *testing.T) { // P20.3
	for op, text := range map[byte]string{4: "4", 5: "5", 6: "6", 9: "9", 10: "10", 12: "12", 14: "14"} {
		s := stmt.Statement{Account: 1, Cur: api.JPY, From: 40, To: 40, Closing: 1, Lines: []stmt.Line{{Seq: 1, Day: 40, Op: op, Change: 1, Balance: 1}}}
		writes(t, s, "account 1 JPY from 0001-02-09 to 0001-02-09 opening 0\n1 0001-02-09 "+text+" 1 1\nclosing 1\n")
	}
}

// TestTheLongestText: of a statement in form; it is well below the bound.
func TestTheLongestText(t *testing.T) { // P20.3
	s := stmt.Statement{Account: 1000000000, Cur: api.KWD, From: lastDay, To: lastDay, Opening: -minor, Closing: -minor}
	for i := range maxLines {
		l := stmt.Line{Seq: 1000000000000 - maxLines + 1 + int64(i), Day: lastDay, Op: api.OpStep, Change: minor, Balance: 0}
		if i%2 == 1 {
			l.Change, l.Balance = -minor, -minor
		}
		s.Lines = append(s.Lines, l)
	}
	writes(t, s, textOf(s))
}

// TestTextsAtRandom: statements of any numbers.
func TestTextsAtRandom(t *testing.T) { // P20.2, P20.3
	c := rand.New(rand.NewSource(7))
	any := func() int64 { return c.Int63n(1+c.Int63n(minor)) - c.Int63n(1+c.Int63n(minor)) }
	for range 2000 {
		s := stmt.Statement{Account: 1 + c.Int63n(1000000000), Cur: c.Intn(4), From: 1 + c.Intn(lastDay), Opening: any()}
		s.To = s.From + c.Intn(lastDay-s.From+1)
		s.Closing = s.Opening
		seq, day := int64(0), s.From
		for range c.Intn(20) {
			next := any()
			if next == s.Closing || next-s.Closing > minor || next-s.Closing < -minor {
				continue
			}
			seq += 1 + c.Int63n(1+c.Int63n(10000000000))
			day += c.Intn(s.To - day + 1)
			s.Lines = append(s.Lines, stmt.Line{Seq: seq, Day: day, Op: []byte{4, 5, 6, 9, 10, 12, 14}[c.Intn(7)], Change: next - s.Closing, Balance: next})
			s.Closing = next
		}
		inForm(t, "at random", s)
	}
}

// near: whatever Parse reads is written as just that text; else it is ErrText.
func near(t *testing.T, text string) bool {
	t.Helper()
	got, e := stmt.Parse(text)
	if e != api.OK {
		parsesNot(t, text, api.ErrText)
		return false
	}
	again, e := stmt.Write(got)
	if e != api.OK || again != text {
		t.Errorf("Parse(%q) = %v, which is written as %q, error %d", text, got, again, e)
	}
	return true
}

func TestTextsThatAreCutOff(t *testing.T) { // P20.3
	for at := range len(example) {
		parsesNot(t, example[:at], api.ErrText)
		if at > 0 {
			parsesNot(t, example[at:], api.ErrText)
		}
	}
}

func TestTextsWithAByteMoreOrLess(t *testing.T) { // P20.3
	strange := " \n\t\r\x00.,-+0159aeCE:\x7f\xff"
	for at := range len(example) + 1 {
		for _, b := range []byte(strange) {
			more := example[:at] + string([]byte{b}) + example[at:]
			if near(t, more) && (b == ' ' || b == '\n') {
				t.Errorf("Parse reads %q", more)
			}
			if at < len(example) {
				near(t, example[:at]+string([]byte{b})+example[at+1:])
			}
		}
		if at < len(example) {
			near(t, example[:at]+example[at+1:])
			for next := range 5 { // several bytes
				near(t, example[:at]+example[min(len(example), at+next):])
				near(t, example[:at]+example[at:min(len(example), at+next)]+example[at:])
			}
		}
	}
	parsesNot(t, example+" ", api.ErrText)
	parsesNot(t, example+"\n", api.ErrText)
	parsesNot(t, example+example, api.ErrText)
	parsesNot(t, example+"closing 13.40\n", api.ErrText)
	parsesNot(t, "\xef\xbb\xbf"+example, api.ErrText)
}

// TestWrongTexts: the first of each pair is in the example, once; the second in its place makes no text.
func TestWrongTexts(t *testing.T) { // P20.3
	for _, c := range [][2]string{
		// words
		{"account", "Account"}, {"account", "accounts"}, {"account", ""}, {"EUR", "eur"}, {"EUR", "EURO"}, {"EUR", "XXX"}, {"EUR", ""}, {"EUR ", ""},
		{"from", "From"}, {"from", "to"}, {" to ", " from "}, {" to ", " TO "}, {"opening", "closing"}, {"opening", "open"}, {"closing", "opening"}, {"closing", "Closing"}, {"closing", "closed"},
		// blanks and ends of lines
		{"account ", "account  "}, {"account ", "account"}, {"account ", " account "}, {"account ", "account\t"}, {"account ", "account\n"}, {" opening", "\nopening"},
		{"-2.50\n", "-2.50 \n"}, {"-2.50\n", "-2.50\r\n"}, {"-2.50\n", "-2.50\n\n"}, {"-2.50\n", "-2.50 "}, {"\n7 ", "\n 7 "}, {"\n7 ", " 7 "}, {"4.50\n", "4.50 \n"},
		{"closing 13.40\n", "closing 13.40"}, {"closing 13.40\n", "closing 13.40 \n"}, {"closing 13.40\n", "closing  13.40\n"}, {"closing 13.40\n", "closing\n13.40\n"},
		{"closing 13.40\n", "closing\n"}, {"closing 13.40\n", "closing \n"}, {"closing 13.40\n", ""}, {"closing 13.40\n", "13.40\n"},
		// numbers
		{"account 10", "account 010"}, {"account 10", "account +10"}, {"account 10", "account -10"}, {"account 10", "account 0"}, {"account 10", "account 1000000001"}, {"account 10", "account 1e1"},
		{"account 10", "account 10.0"}, {"account 10", "account 0x10"}, {"account 10", "account 1_0"}, {"account 10", "account "}, {"account 10", "account \uff11\uff10"},
		{"account 10", "account 18446744073709551626"}, {"account 10", "account " + strings.Repeat("1", 400)},
		{"\n3 ", "\n03 "}, {"\n3 ", "\n0 "}, {"\n3 ", "\n-3 "}, {"\n3 ", "\n7 "}, {"\n3 ", "\n8 "}, {"\n900 ", "\n1000000000001 "}, {"\n900 ", "\n8 "}, {"\n900 ", "\n9223372036854775808 "},
		{" 4 ", " 04 "}, {" 4 ", " 7 "}, {" 4 ", " 260 "}, {" 4 ", " -252 "}, {" 4 ", " 4294967300 "}, {" 4 ", " 18446744073709551620 "}, {" 4 ", " 0 "}, {" 4 ", " 15 "}, {" 4 ", " deposit "}, {" 4 ", " "},
		// days
		{"0001-02-19", "1-02-19"}, {"0001-02-19", "0001-02-29"}, {"0001-02-19", "0001-02-30"}, {"0001-02-19", "0001-2-19"}, {"0001-02-19", "0000-02-19"}, {"0001-02-19", "00001-02-19"}, {"0001-02-19", "10000-01-01"},
		{"0001-02-19", "50"}, {"0001-02-19", "0001/02/19"}, {"0001-02-19", "0001-02-08"}, {"0001-02-19", "0001-02-15"}, {"0001-02-09", "0001-02-11"}, {"0001-02-09", "0001-02-20"},
		{"0001-02-10", "0001-02-08"}, {"0001-02-10", "0001-02-14"}, {"0001-02-16", "0001-02-12"}, {"0001-02-16", "0001-02-20"},
		// amounts
		{"-2.50", "-2.5"}, {"-2.50", "-2.500"}, {"-2.50", "-02.50"}, {"-2.50", "-2,50"}, {"-2.50", "-250"}, {"-2.50", "- 2.50"}, {"-2.50", "2.50"}, {"-2.50", "-2.51"},
		{" 10.00 ", " +10.00 "}, {" 10.00 ", " 010.00 "}, {" 10.00 ", " 10 "}, {" 10.00 ", " 10. "}, {" 10.00 ", " 10.0 "}, {" 10.00 ", " 10.000 "}, {" 10.00 ", " 1e1 "}, {" 10.00 ", " 10.01 "}, {" 10.00 ", " -10.00 "}, {" 10.00 ", " EUR 10.00 "},
		{" 10.00 7.50", " 10.00"}, {" 10.00 7.50", " 10.00 7.50 7.50"}, {" 10.00 7.50", " 10.00 7.51"}, {" 10.00 7.50", " 7.50 10.00"}, {" -0.10 ", " -.10 "}, {" -0.10 ", " -0.1 "}, {" -0.10 ", " 0.10 "},
		{"closing 13.40", "closing 13.41"}, {"closing 13.40", "closing -13.40"}, {"closing 13.40", "closing 13.4"}, {"closing 13.40", "closing 013.40"}, {"closing 13.40", "closing 100000000000.01"},
		{"closing 13.40", "closing " + strings.Repeat("9", 80) + ".00"},
		// lines
		{"8 0001-02-13 14 -0.10 4.40\n", ""}, {"8 0001-02-13 14 -0.10 4.40\n", "8 0001-02-13 14 0.00 4.50\n"}, {"8 0001-02-13 14 -0.10 4.40\n", "8 0001-02-13 14 -0.00 4.50\n"}, {"8 0001-02-13 14 -0.10 4.40\n", "\n"},
		{"8 0001-02-13 14 -0.10 4.40\n", "8 0001-02-13 14 -0.10 4.40\n8 0001-02-13 14 -0.10 4.40\n"}, {"8 0001-02-13 14 -0.10 4.40\n", "8 0001-02-13 14 -0.10 4.40\nclosing 4.40\n"},
	} {
		if strings.Count(example, c[0]) != 1 {
			t.Fatalf("%q is not once in the example", c[0])
		}
		parsesNot(t, strings.Replace(example, c[0], c[1], 1), api.ErrText)
	}
	for _, text := range []string{"", " ", "\n", "\n\n", "account", "closing 0.00\n", "account 10 EUR from 0001-02-09 to 0001-02-10 opening 0.00\n", strings.Repeat(" ", 1000), strings.Repeat("\n", 1000)} {
		parsesNot(t, text, api.ErrText)
	}
}

func TestAWrongOrderOfLines(t *testing.T) { // P20.3
	lines := strings.SplitAfter(strings.TrimSuffix(example, "\n"), "\n")
	lines[len(lines)-1] += "\n"
	if strings.Join(lines, "") != example {
		t.Fatal("the lines are not those of the example")
	}
	for i := range lines {
		parsesNot(t, strings.Join(slices.Delete(slices.Clone(lines), i, i+1), ""), api.ErrText)
		parsesNot(t, strings.Join(slices.Insert(slices.Clone(lines), i, lines[i]), ""), api.ErrText)
		for j := range i {
			other := slices.Clone(lines)
			other[i], other[j] = other[j], other[i]
			parsesNot(t, strings.Join(other, ""), api.ErrText)
		}
	}
}

// TestAnotherCurrencysDigits: an amount is told with its own currency's, each of them.
func TestAnotherCurrencysDigits(t *testing.T) { // P20.3
	for cur, name := range names() {
		for other := range names() {
			right := amountOf(cur, 1000) == amountOf(other, 1000)
			for place := range 4 {
				texts := [4]string{amountOf(cur, 0), amountOf(cur, 1000), amountOf(cur, 1000), amountOf(cur, 1000)}
				texts[place] = amountOf(other, []int64{0, 1000, 1000, 1000}[place])
				text := "account 1 " + name + " from 0001-02-09 to 0001-02-09 opening " + texts[0] + "\n1 0001-02-09 4 " + texts[1] + " " + texts[2] + "\nclosing " + texts[3] + "\n"
				if near(t, text) != right {
					t.Errorf("Parse(%q) is read: %t", text, !right)
				}
			}
		}
	}
}

func TestHowLongATextMayBe(t *testing.T) { // P20.3
	long := func(filler string, size int) string { return strings.Repeat(filler, size/len(filler)+1)[:size] }
	for _, filler := range []string{" ", "\n", "a", "0", "1 ", "closing ", "account ", example, "account 1 EUR from 0001-02-09 to 0001-02-09 opening 0.00\n", "\x00"} {
		parsesNot(t, long(filler, maxText-1), api.ErrText)
		parsesNot(t, long(filler, maxText), api.ErrText)
		parsesNot(t, long(filler, maxText+1), api.ErrLong)
		parsesNot(t, long(filler, 2*maxText), api.ErrLong)
		parsesNot(t, example+long(filler, maxText-len(example)), api.ErrText)
		parsesNot(t, example+long(filler, maxText+1-len(example)), api.ErrLong)
	}
	head := "account 1 JPY from 0001-02-09 to 0001-02-09 opening 0\n"
	parsesNot(t, head+long("1 0001-02-09 4 1 1\n", maxText-len(head)), api.ErrText)
	parsesNot(t, head+long("1 0001-02-09 4 1 1\n", maxText-len(head)+1), api.ErrLong)
}
