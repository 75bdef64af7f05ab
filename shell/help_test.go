package shell_test

import (
	"fmt"
	"strings"
	"testing"

	"passbook/api"
	"passbook/shell"
)

const (
	maxText  = 65536
	maxTiers = 8
	lastDay  = 3652059
	january  = 31  // the last day of a month
	maxFull  = 512 // events of 64 files with 8 each
)

// pair is a line, and the answer that it must have.
type pair struct{ line, answer string }

// pairs: of a table, a line and its answer each, with -> between; empty rows are none.
func pairs(t *testing.T, table string) []pair {
	t.Helper()
	var out []pair
	for _, row := range strings.Split(table, "\n") {
		if row == "" {
			continue
		}
		line, answer, ok := strings.Cut(row, " -> ")
		if !ok {
			t.Fatalf("%q has no answer", row)
		}
		out = append(out, pair{line, answer})
	}
	return out
}

// scriptOf: the lines of the table.
func scriptOf(t *testing.T, table string) string {
	t.Helper()
	var script strings.Builder
	for _, p := range pairs(t, table) {
		script.WriteString(p.line + "\n")
	}
	return script.String()
}

// run: the answers, of which there must be one for each line.
func run(t *testing.T, day int, script string) string {
	t.Helper()
	got, e := shell.Run(day, script)
	if e != api.OK {
		t.Fatalf("Run(%d, %.300q): error %d", day, script, e)
	}
	lines := strings.Count(script, "\n")
	if script != "" && !strings.HasSuffix(script, "\n") {
		lines++
	}
	if strings.Count(got, "\n") != lines || got != "" && !strings.HasSuffix(got, "\n") {
		t.Fatalf("Run(%d, %.300q) = %.300q: there are %d lines", day, script, got, lines)
	}
	return got
}

// lastOf: the answer of a script's last line.
func lastOf(t *testing.T, day int, script string) string {
	t.Helper()
	lines := strings.Split(strings.TrimSuffix(run(t, day, script), "\n"), "\n")
	return lines[len(lines)-1]
}

// answers: each line of the table has its answer, whatever stands behind it, also where the script ends with it, with 0a or without.
func answers(t *testing.T, day int, table string) {
	t.Helper()
	script, want := "", ""
	for _, p := range pairs(t, table) {
		script, want = script+p.line, want+p.answer+"\n"
		for _, end := range []string{"", "\n"} {
			if p.line+end == "" {
				continue // no line at all
			}
			if got := run(t, day, script+end); got != want {
				t.Fatalf("behind %q:\n%s, want\n%s", p.line, got, want)
			}
		}
		script += "\n"
	}
}

// repeated: the line, so many times.
func repeated(line string, times int) string { return strings.Repeat(line+"\n", times) }

// refusesRun: just that error, and no answers beside it.
func refusesRun(t *testing.T, day int, script string, want api.Errno) {
	t.Helper()
	if got, e := shell.Run(day, script); got != "" || e != want {
		t.Fatalf("Run(%d, %.100q) = %.100q, error %d, want error %d", day, script, got, e, want)
	}
}

// first: a product, an account of it, and a deposit: the chapter's.
const first = `
product 1 1 0 1 1 0 0 500 0 36500000 -> ok 0 1
open 10 1 -> ok 0 2
deposit 10 1000000 -> ok 1000000 3
`

// off: the power goes, with nothing changed.
const off = `
crash 1 -> crash 1
deposit 10 5 -> error 18
`

// storyDay: the day on which the story begins; its second end of day is that of a month.
const storyDay = january - 1

// story: lines of each kind, and no command that is refused.
const story = `
key 1 -> key 1
product 1 1 0 1 1 0 7 500 0 36500000 -> ok 0 1
product 2 1 2 1 0 6 0 0 0 1000 5000 2000 -> ok 0 2
key 3 -> key 3
product 3 2 0 1 2 1 0 10000000000000 0 50000000 -> ok 0 3
open 10 1 -> ok 0 4
open 11 1 -> ok 0 5
open 20 2 -> ok 0 6
open 30 3 -> ok 0 7
key 9223372036854775807 -> key 9223372036854775807
deposit 10 1000000 -> ok 1000000 8
withdraw 10 500 -> ok 500 9
transfer 10 11 250000 -> ok 250000 10
hold 10 5 1000 -> ok 0 11
account 10 -> account 10 balance 749500 held 1000 accrued 0
snapshot -> ok 0 11
hold 10 6 50 -> ok 0 12
free 10 6 -> ok 0 13
rate 0 2 160500000000 -> ok 0 14
exchange 10 20 101 -> ok 162 15
lend 30 10 777 12 -> ok 777 16
repay 30 10 77 -> ok 77 17
account 10 -> account 10 balance 750099 held 1000 accrued 0
account 11 -> account 11 balance 250000 held 0 accrued 0
account 20 -> account 20 balance 162 held 0 accrued 0
account 30 -> account 30 balance 700 held 0 accrued 0
withdraw 20 162 -> ok 162 18
close 20 -> ok 0 19
account 20 -> account 20 balance 0 held 0 accrued 0
today -> 0001-01-30 open
day 2 -> ok 2 21
today -> 0001-01-30 running
agrees -> true
day 1 -> ok 1 22
day 4096 -> ok 2 24
today -> 0001-01-31 open
account 10 -> account 10 balance 750099 held 1000 accrued 75009900
account 11 -> account 11 balance 250000 held 0 accrued 25000000
snapshot -> ok 0 24
day 5 -> ok 5 29
today -> 0001-01-31 running
account 10 -> account 10 balance 750242 held 1000 accrued 19800
day 4 -> ok 4 33
day 9 -> ok 1 34
account 10 -> account 10 balance 750242 held 1000 accrued 19800
account 11 -> account 11 balance 250043 held 0 accrued 0
today -> 0001-02-01 open
agrees -> true
`

// fillers: rates, as many as are told; each is an event.
func fillers(count int) string {
	var out strings.Builder
	for i := range count {
		fmt.Fprintf(&out, "rate 0 1 %d\n", i+1)
	}
	return out.String()
}
