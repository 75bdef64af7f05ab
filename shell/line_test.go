package shell_test

import (
	"fmt"
	"math/big"
	"regexp"
	"slices"
	"strings"
	"testing"

	"passbook/api"
	"passbook/event"
	"passbook/shell"
)

const (
	least    = -1 << 63
	greatest = 1<<63 - 1
)

func cmd(op byte, numbers ...int64) api.Event {
	e := api.Event{Op: op}
	copy(e.N[:], numbers)
	return e
}

func tiers(c api.Event, l ...api.Tier) api.Event {
	c.Tiers = l
	return c
}

// shape is a line that is a command: how many numbers it has, without Tiers.
type shape struct {
	word  string
	op    byte
	count int
}

func shapes() []shape {
	return []shape{
		{"product", api.OpProduct, 8}, {"open", api.OpOpen, 2}, {"close", api.OpClose, 1}, {"deposit", api.OpDeposit, 2},
		{"withdraw", api.OpWithdraw, 2}, {"transfer", api.OpTransfer, 3}, {"hold", api.OpHold, 3}, {"free", api.OpFree, 2},
		{"lend", api.OpLend, 4}, {"repay", api.OpRepay, 3}, {"rate", api.OpRate, 3}, {"exchange", api.OpExchange, 3}, {"day", api.OpBegin, 1},
	}
}

// line: with the numbers 1, 2 and so on, and a product's with one Tier.
func (s shape) line() string {
	line := s.word
	count := s.count
	if s.op == api.OpProduct {
		count += 2
	}
	for i := range count {
		line += fmt.Sprint(" ", i+1)
	}
	return line
}

// others: lines that are no commands, each with its numbers.
func others() []string {
	return []string{"key 5", "key 0", "snapshot", "crash 5", "crash 0", "restart", "account 10", "today", "agrees"}
}

// wrongLines: none of them is a line of any kind.
func wrongLines() []string {
	out := []string{"", " ", "  ", "\n", "0", "-1", "10 5", "error 6", "ok 0 1", "deposit\x00 10 5", "Deposit 10 5", "DEPOSIT 10 5", "depos\xefit 10 5", "begin 5", "step 10 1 5", "roll 41", "open", "help", "deposits 10 5", "deposi 10 5"}
	all := others()
	for _, s := range shapes() {
		all = append(all, s.line())
	}
	for _, line := range all {
		out = append(out, " "+line, line+" ", line+"\n", "\n"+line, line+"\r", line+"\t", line+" x", line+" 0 ", "x "+line, "0 "+line)
		out = append(out, strings.ToUpper(line), "x"+line, line+"x", line+"\x00", line+" 0", line+" -", line+".0", line+"\xa0")
		words := strings.Split(line, " ")
		for i := range words[1:] {
			for _, word := range wrongNumbers() {
				other := slices.Clone(words)
				other[i+1] = word
				out = append(out, strings.Join(other, " "))
			}
			blanks := slices.Insert(slices.Clone(words), i+1, "")
			out = append(out, strings.Join(blanks, " "))
			out = append(out, strings.Join(words[:i+1], " ")+"\t"+strings.Join(words[i+1:], " "))
		}
		if len(words) > 1 {
			out = append(out, strings.Join(words[:len(words)-1], " "), strings.Join(words, ""), words[0])
		}
	}
	return append(out, "key -1", "key -9223372036854775808", "crash 1001", "crash -1", "crash 9223372036854775807", "crash -9223372036854775808")
}

// wrongNumbers: words that are no numbers.
func wrongNumbers() []string {
	return []string{
		"", "-", "+", "--1", "+1", "-+1", "+0", "-0", "00", "01", "-01", "007", "1-", "1 ", "0x1", "0b1", "1e1", "1.0", "1,0", "1_0", "_1", "a", "one", "\x001", "1\x00", "\xd9\xa1", "\xef\xbc\x91",
		"9223372036854775808", "-9223372036854775809", "10000000000000000000", "18446744073709551616", "18446744073709551617", "-18446744073709551615", strings.Repeat("9", 100), "-" + strings.Repeat("9", 100), strings.Repeat("0", 30),
	}
}

func isCommand(t *testing.T, line string, want api.Event) {
	t.Helper()
	got, e := shell.Line(line)
	if e != api.OK || !event.Same(got, want) {
		t.Fatalf("Line(%.200q) = %.300v, error %d, want %.300v", line, got, e, want)
	}
}

func isNone(t *testing.T, line string, want api.Errno) {
	t.Helper()
	got, e := shell.Line(line)
	if e != want || !event.Same(got, api.Event{}) {
		t.Errorf("Line(%.200q) = %.300v, error %d, want error %d", line, got, e, want)
	}
}

func TestEveryKindOfLine(t *testing.T) { // P22.1
	isCommand(t, "product 1 1 0 1 1 0 0 500 0 36500000", tiers(cmd(api.OpProduct, 1, 1, 0, 1, 1, 0, 0, 500), api.Tier{From: 0, Rate: 36500000}))
	isCommand(t, "open 10 1", cmd(api.OpOpen, 10, 1))
	isCommand(t, "close 10", cmd(api.OpClose, 10))
	isCommand(t, "deposit 10 1000000", cmd(api.OpDeposit, 10, 1000000))
	isCommand(t, "withdraw 10 1000501", cmd(api.OpWithdraw, 10, 1000501))
	isCommand(t, "transfer 10 11 5", cmd(api.OpTransfer, 10, 11, 5))
	isCommand(t, "hold 10 7 5", cmd(api.OpHold, 10, 7, 5))
	isCommand(t, "free 10 7", cmd(api.OpFree, 10, 7))
	isCommand(t, "lend 30 10 5 12", cmd(api.OpLend, 30, 10, 5, 12))
	isCommand(t, "repay 30 10 5", cmd(api.OpRepay, 30, 10, 5))
	isCommand(t, "rate 0 2 160500000000", cmd(api.OpRate, 0, 2, 160500000000))
	isCommand(t, "exchange 10 20 101", cmd(api.OpExchange, 10, 20, 101))
	isCommand(t, "day 9", cmd(api.OpBegin, 9))
	for _, s := range shapes() {
		c := cmd(s.op, []int64{1, 2, 3, 4, 5, 6, 7, 8}[:s.count]...)
		if s.op == api.OpProduct {
			c = tiers(c, api.Tier{From: 9, Rate: 10})
		}
		isCommand(t, s.line(), c)
	}
}

func TestLinesThatAreNoCommands(t *testing.T) { // P22.1
	for _, line := range others() {
		isNone(t, line, api.ErrText)
	}
	for _, line := range wrongLines() {
		isNone(t, line, api.ErrText)
	}
}

// TestCounts: of numbers, from none to more than any line has.
func TestCounts(t *testing.T) { // P22.1
	for _, s := range shapes() {
		for count := range 40 {
			line := s.word + strings.Repeat(" 3", count)
			right := count == s.count
			if s.op == api.OpProduct {
				right = count > s.count && (count-s.count)%2 == 0
			}
			c := cmd(s.op, slices.Repeat([]int64{3}, s.count)...)
			switch {
			case !right:
				isNone(t, line, api.ErrText)
			case s.op == api.OpProduct:
				isCommand(t, line, tiers(c, slices.Repeat([]api.Tier{{From: 3, Rate: 3}}, (count-s.count)/2)...))
			default:
				isCommand(t, line, c)
			}
		}
	}
}

func TestNumbers(t *testing.T) { // P22.1
	right := []int64{0, 1, -1, 9, 10, -10, 100, 4096, 4097, 1001, api.MaxMinor, api.MaxMinor + 1, -api.MaxMinor, lastDay + 1, 1 << 31, 1 << 32, -1 << 31, greatest - 1, greatest, least + 1, least}
	for _, s := range shapes() {
		words := strings.Split(s.line(), " ")
		for place := range words[1:] {
			for _, n := range right {
				other := slices.Clone(words)
				other[place+1] = fmt.Sprint(n)
				want, _ := shell.Line(s.line())
				switch {
				case place < s.count:
					want.N[place] = n
				case place == s.count:
					want.Tiers[0].From = n
				default:
					want.Tiers[0].Rate = n
				}
				isCommand(t, strings.Join(other, " "), want)
			}
		}
	}
}

func TestTiers(t *testing.T) { // P22.1
	line := "product 1 2 3 4 5 6 7 8"
	want := cmd(api.OpProduct, 1, 2, 3, 4, 5, 6, 7, 8)
	isNone(t, line, api.ErrText)
	for i := range int64(2 * maxTiers) { // more than an event may have: they are not looked at
		isNone(t, fmt.Sprintf("%s %d", line, -i), api.ErrText)
		line += fmt.Sprintf(" %d %d", -i, 100+i)
		want.Tiers = append(want.Tiers, api.Tier{From: -i, Rate: 100 + i})
		isCommand(t, line, want)
	}
}

func TestTiersOfABank(t *testing.T) { // P22.2
	line := "product 1 1 0 1 1 0 0 500"
	for i := range 2 * maxTiers {
		line += fmt.Sprintf(" %d %d", i, 100+i)
		want := "ok 0 1\n"
		if i >= maxTiers {
			want = "error 3\n"
		}
		if got := run(t, 40, line); got != want {
			t.Errorf("Run(40, %q) = %q, want %q", line, got, want)
		}
	}
}

// longProduct: a line of so many bytes, with as many tiers as it takes.
func longProduct(size int) string {
	line := "product 1 1 0 1 1 0 0 500"
	line += strings.Repeat(" 1 2", (size-len(line)-5)/4)
	rest := size - len(line) // 5 to 8 bytes, for the last tier
	return line + " 1 " + strings.Repeat("2", rest-3)
}

func TestHowLongALineMayBe(t *testing.T) { // P22.1
	for size := maxText - 5; size <= maxText; size++ {
		line := longProduct(size)
		c, e := shell.Line(line)
		if len(line) != size || e != api.OK || c.Op != api.OpProduct || c.N != [8]int64{1, 1, 0, 1, 1, 0, 0, 500} || len(c.Tiers) < 16000 {
			t.Fatalf("Line of %d bytes: %.100v, error %d", len(line), c, e)
		}
		for _, tier := range c.Tiers[:len(c.Tiers)-1] {
			if tier != (api.Tier{From: 1, Rate: 2}) {
				t.Fatalf("a tier is %v", tier)
			}
		}
	}
	isNone(t, longProduct(maxText+1), api.ErrLong)
	for _, filler := range []string{" ", "a", "0", "\n", "9", "open 10 1\n", "\x00", "\xff"} {
		for size, want := range map[int]api.Errno{maxText - 1: api.ErrText, maxText: api.ErrText, maxText + 1: api.ErrLong, 2 * maxText: api.ErrLong} {
			isNone(t, strings.Repeat(filler, size/len(filler)+1)[:size], want)
			isNone(t, ("open 10 1" + strings.Repeat(filler, size))[:size], want)
		}
	}
}

// forms: what a line must look like, by the document's table.
var forms = lineForms()

func lineForms() []*regexp.Regexp {
	var out []*regexp.Regexp
	for _, s := range shapes() {
		form := fmt.Sprintf(`\A%s( (0|-?[1-9][0-9]*)){%d}`, s.word, s.count)
		if s.op == api.OpProduct {
			form += `( (0|-?[1-9][0-9]*) (0|-?[1-9][0-9]*))+`
		}
		out = append(out, regexp.MustCompile(form+`\z`))
	}
	return out
}

// plainLine: the command of a line, by its form.
func plainLine(line string) (api.Event, bool) {
	for i, form := range forms {
		if !form.MatchString(line) {
			continue
		}
		s := shapes()[i]
		c := api.Event{Op: s.op}
		var rest []int64
		for at, word := range strings.Fields(line)[1:] {
			n, _ := new(big.Int).SetString(word, 10)
			switch {
			case !n.IsInt64():
				return api.Event{}, false
			case at < s.count:
				c.N[at] = n.Int64()
			default:
				rest = append(rest, n.Int64())
			}
		}
		for pair := range slices.Chunk(rest, 2) {
			c.Tiers = append(c.Tiers, api.Tier{From: pair[0], Rate: pair[1]})
		}
		return c, true
	}
	return api.Event{}, false
}

func near(t *testing.T, line string) bool {
	t.Helper()
	want, ok := plainLine(line)
	if ok {
		isCommand(t, line, want)
	} else {
		isNone(t, line, api.ErrText)
	}
	return ok
}

// TestNearALine: lines that are a byte beside a right one.
func TestNearALine(t *testing.T) { // P22.1
	bytes := " \n-+019ax\x00"
	right, wrong := 0, 0
	count := func(ok bool) {
		if ok {
			right++
		} else {
			wrong++
		}
	}
	for _, line := range []string{"open 10 -1", "close 9223372036854775807", "close -9223372036854775808", "day 5", "hold 1 0 -20", "product 1 1 0 1 1 0 0 500 0 36500000", "product 1 1 0 1 1 0 0 500 0 5 7 9"} {
		count(near(t, line))
		for i := range len(line) + 1 {
			for _, b := range []byte(bytes) {
				count(near(t, line[:i]+string(b)+line[i:]))
				if i < len(line) {
					count(near(t, line[:i]+string(b)+line[i+1:]))
				}
			}
			if i < len(line) {
				count(near(t, line[:i]+line[i+1:]))
			}
			for j := range i {
				count(near(t, line[:j]+line[i:]))
			}
		}
	}
	if right < 300 || wrong < 1000 {
		t.Fatalf("%d lines were right, %d wrong", right, wrong)
	}
}

// TestMemory: an answer's Tiers are its own.
func TestMemory(t *testing.T) { // P22.1
	line := "product 1 1 0 1 1 0 0 500 0 5 7 9"
	want := tiers(cmd(api.OpProduct, 1, 1, 0, 1, 1, 0, 0, 500), api.Tier{From: 0, Rate: 5}, api.Tier{From: 7, Rate: 9})
	one, _ := shell.Line(line)
	two, _ := shell.Line(line)
	for i := range one.Tiers[:cap(one.Tiers)] {
		one.Tiers[:cap(one.Tiers)][i] = api.Tier{From: 99, Rate: 99}
	}
	if !event.Same(two, want) {
		t.Fatalf("another answer is %v", two)
	}
	isCommand(t, line, want)
}
