package shell_test

import (
	"fmt"
	"os"
	"strings"
	"testing"

	"passbook/api"
	"passbook/shell"
)

func TestExample(t *testing.T) { // P22.2
	answers(t, 40, first+`
withdraw 10 1000501 -> error 13
crash 1 -> crash 1
deposit 10 5 -> error 18
deposit 10 5 -> error 18
restart -> ok 0 3
day 9 -> ok 3 6
account 10 -> account 10 balance 1000000 held 0 accrued 100000000
today -> 0001-02-10 open
agrees -> true
deposit 10 -> error 6
`)
}

func TestStory(t *testing.T) { answers(t, storyDay, story) } // P22.2

func TestFirstAndLastDay(t *testing.T) { // P22.2
	answers(t, 1, first+`
today -> 0001-01-01 open
day 3 -> ok 3 6
today -> 0001-01-02 open
`)
	answers(t, lastDay-1, first+`
today -> 9999-12-30 open
day 9 -> ok 3 6
today -> 9999-12-31 open
day 9 -> error 9
today -> 9999-12-31 open
deposit 10 5 -> ok 5 7
`)
	answers(t, lastDay, first+`
today -> 9999-12-31 open
day 1 -> error 9
day 0 -> error 1
today -> 9999-12-31 open
agrees -> true
`)
}

func TestNoDay(t *testing.T) { // P22.2
	for _, day := range []int{0, -1, lastDay + 1, 1<<63 - 1, -1 << 63} {
		for _, script := range []string{"", "today\n", "nonsense", scriptOf(t, first), repeated("today", 5000), strings.Repeat("a", maxText), strings.Repeat("a", maxText+1)} {
			refusesRun(t, day, script, api.ErrArg) // the lesser number, of a script that is too long as well
		}
	}
}

func TestScripts(t *testing.T) { // P22.2
	for _, c := range []struct{ script, want string }{
		{"", ""},
		{"\n", "error 6\n"},
		{"\n\n\n", "error 6\nerror 6\nerror 6\n"},
		{"today", "0001-02-09 open\n"},
		{"today\n", "0001-02-09 open\n"},
		{"today\n\n", "0001-02-09 open\nerror 6\n"},
		{"\ntoday", "error 6\n0001-02-09 open\n"},
		{"today\n\ntoday\n", "0001-02-09 open\nerror 6\n0001-02-09 open\n"},
		{"today\r\n", "error 6\n"},
		{"today \n", "error 6\n"},
		{" today\n", "error 6\n"},
		{" ", "error 6\n"},
		{"today\x00\n", "error 6\n"},
		{"\x00", "error 6\n"},
		{"\xff\xfe\n\xff", "error 6\nerror 6\n"},
		{"today\ttoday\n", "error 6\n"},
	} {
		if got := run(t, 40, c.script); got != c.want {
			t.Errorf("Run(40, %q) = %q, want %q", c.script, got, c.want)
		}
	}
}

func TestHowLongAScriptMayBe(t *testing.T) { // P22.2
	for _, filler := range []string{"\n", "a", " ", "0", "today\n", "key 7\n", "restart\n", "close 1\n", "deposit 10 5\n", "account 9223372036854775807\n", "product 1 ", "\x00"} {
		long := strings.Repeat(filler, maxText/len(filler)+2)
		run(t, 40, long[:maxText-1])
		run(t, 40, long[:maxText])
		refusesRun(t, 40, long[:maxText+1], api.ErrLong)
		refusesRun(t, 40, strings.Repeat(long, 2), api.ErrLong)
	}
	script := scriptOf(t, first)
	script += strings.Repeat("x", maxText-len(script)-len("\ntoday\n")) + "\ntoday\n"
	if got := run(t, 40, script); got != "ok 0 1\nok 0 2\nok 1000000 3\nerror 6\n0001-02-09 open\n" {
		t.Errorf("of a line that fills the script: %q", got)
	}
	refusesRun(t, 40, script+"\n", api.ErrLong)
	refusesRun(t, 40, script+"a", api.ErrLong)
}

// TestALineThatFillsAScript: a product with more tiers than an event may have is a command still, which the bank refuses.
func TestALineThatFillsAScript(t *testing.T) { // P22.1, P22.2
	line := longProduct(maxText)
	if got := run(t, 40, line); got != "error 3\n" {
		t.Errorf("of a line of %d bytes: %q", len(line), got)
	}
	refusesRun(t, 40, line+"\n", api.ErrLong)
}

func TestWrongLines(t *testing.T) { // P22.2
	var script strings.Builder
	wrong := wrongLines()
	for _, line := range wrong {
		if !strings.Contains(line, "\n") {
			script.WriteString(line + "\n")
		}
	}
	for _, table := range []string{first, first + off, first + off + "restart -> ok 0 3"} { // where the power is off, too, the line is none
		got := run(t, 40, scriptOf(t, table)+script.String())
		lines := strings.Split(strings.TrimSuffix(got, "\n"), "\n")[len(pairs(t, table)):]
		for i, line := range strings.Split(strings.TrimSuffix(script.String(), "\n"), "\n") {
			if lines[i] != "error 6" {
				t.Errorf("%q has the answer %q", line, lines[i])
			}
		}
	}
}

// TestRefusedChangesNothing: behind lines that are refused, or none, all answers are as if they had not been told.
func TestRefusedChangesNothing(t *testing.T) { // P22.2
	refused := `
deposit 99 5 -> error 7
deposit 10 0 -> error 1
deposit 10 -5 -> error 1
deposit 10 10000000000001 -> error 1
withdraw 10 1000501 -> error 13
transfer 10 10 5 -> error 1
open 10 1 -> error 8
open 0 1 -> error 1
open 11 2 -> error 7
close 10 -> error 15
hold 10 0 5 -> error 1
free 10 5 -> error 7
lend 10 10 5 5 -> error 11
repay 10 10 5 -> error 11
rate 0 0 5 -> error 10
rate 0 4 5 -> error 1
exchange 10 10 5 -> error 1
product 1 1 0 1 1 0 0 500 5 36500000 -> error 3
product 1 1 0 1 1 0 0 500 0 1 1 1 2 1 3 1 4 1 5 1 6 1 7 1 8 1 -> error 3
day 0 -> error 1
day -1 -> error 1
day 4097 -> error 1
day 9223372036854775807 -> error 1
account 11 -> error 7
account 0 -> error 7
account -10 -> error 7
account 9223372036854775807 -> error 7
account -9223372036854775808 -> error 7
restart -> error 14
crash 1001 -> error 6
crash -1 -> error 6
key -1 -> error 6
restart 1 -> error 6
deposit 10 -> error 6
deposit 10 5 5 -> error 6
 -> error 6
`
	after := `
account 10 -> account 10 balance 1000000 held 0 accrued 0
agrees -> true
today -> 0001-02-09 open
day 2 -> ok 2 5
today -> 0001-02-09 running
day 1 -> ok 1 6
deposit 10 5 -> ok 5 7
snapshot -> ok 0 7
`
	answers(t, 40, first+after)
	answers(t, 40, first+refused+after)
}

func TestSnapshot(t *testing.T) { // P22.2
	answers(t, 40, `
snapshot -> error 3
`+first+`
snapshot -> ok 0 3
snapshot -> ok 0 3
deposit 10 5 -> ok 5 4
snapshot -> ok 0 4
day 2 -> ok 2 6
snapshot -> ok 0 6
crash 1 -> crash 1
snapshot -> error 18
restart -> ok 0 6
today -> 0001-02-09 running
snapshot -> ok 0 6
`)
}

func TestRestartWithThePowerOn(t *testing.T) { // P22.2
	answers(t, 40, `
restart -> error 14
`+first+`
restart -> error 14
crash 1 -> crash 1
restart -> error 14
deposit 10 5 -> error 18
restart -> ok 0 3
restart -> error 14
crash 3 -> crash 3
restart -> error 14
deposit 10 5 -> ok 5 4
restart -> error 14
deposit 10 5 -> error 18
restart -> ok 0 4
`)
}

func TestInTheMidstOfAnEndOfDay(t *testing.T) { // P22.2
	table := first + `
open 11 1 -> ok 0 4
deposit 11 500 -> ok 500 5
`
	for n, row := range []string{
		"account 10 -> account 10 balance 1000000 held 0 accrued 0",
		"account 10 -> account 10 balance 1000000 held 0 accrued 100000000",
		"account 11 -> account 11 balance 500 held 0 accrued 50000",
	} {
		table += fmt.Sprintf("day 1 -> ok 1 %d\n%s\n", 6+n, row)
		table += "today -> 0001-02-09 running\nagrees -> true\ndeposit 10 5 -> error 14\nopen 12 1 -> error 14\n"
		table += off[:strings.Index(off, "deposit")] + "day 1 -> error 18\ntoday -> error 18\nagrees -> error 18\n"
		table += fmt.Sprintf("restart -> ok 0 %d\ntoday -> 0001-02-09 running\nagrees -> true\n%s\n", 6+n, row)
	}
	answers(t, 40, table+`
day 4096 -> ok 1 9
today -> 0001-02-10 open
agrees -> true
deposit 10 5 -> ok 5 10
`)
}

// TestEachRunIsNew: no call's answers hang on an earlier one's.
func TestEachRunIsNew(t *testing.T) { // P22.2, P2
	script := scriptOf(t, story) + "crash 5\nkey 5\n"
	want := run(t, storyDay, script)
	run(t, 40, scriptOf(t, first+off))
	for range 3 {
		if got := run(t, storyDay, script); got != want {
			t.Fatalf("once more: %q, want %q", got, want)
		}
		if got := run(t, 7, "today\nrestart\naccount 10\nsnapshot\n"); got != "0001-01-07 open\nerror 14\nerror 7\nerror 3\n" {
			t.Fatalf("of a new bank: %q", got)
		}
	}
}

func TestManyAtOnce(t *testing.T) { // P22.2, P2
	script := scriptOf(t, story)
	want := run(t, storyDay, script)
	got := make(chan string)
	for range 8 {
		go func() {
			text, _ := shell.Run(storyDay, script)
			got <- text
		}()
	}
	for range 8 {
		if text := <-got; text != want {
			t.Errorf("at once with others: %q, want %q", text, want)
		}
	}
}

// TestReadme: the script that README.md tells.
func TestReadme(t *testing.T) { // P22.2
	text, e := os.ReadFile("../README.md")
	if e != nil {
		t.Fatal(e)
	}
	_, rest, _ := strings.Cut(string(text), "| line | answer |\n|---|---|\n")
	rows, _, _ := strings.Cut(rest, "\n\n")
	table := ""
	for _, row := range strings.Split(rows, "\n") {
		table += strings.Replace(strings.Trim(row, "| "), " | ", " -> ", 1) + "\n"
	}
	if len(pairs(t, table)) < 10 {
		t.Fatalf("the table is %q", table)
	}
	answers(t, 40, table)
}
