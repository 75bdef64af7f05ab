package shell_test

import (
	"fmt"
	"strings"
	"testing"
)

// lines: of each kind, and the answers behind the first three, while the power is on.
const lines = `
product 2 1 0 1 1 0 0 500 0 36500000 -> ok 0 4
product 1 1 0 1 1 0 0 500 0 1 1 1 2 1 3 1 4 1 5 1 6 1 7 1 8 1 -> error 3
open 11 1 -> ok 0 4
open 10 1 -> error 8
close 10 -> error 15
deposit 10 7 -> ok 7 4
deposit 99 7 -> error 7
withdraw 10 7 -> ok 7 4
withdraw 10 1000501 -> error 13
transfer 10 10 7 -> error 1
hold 10 3 7 -> ok 0 4
free 10 3 -> error 7
lend 30 10 7 7 -> error 7
repay 10 10 7 -> error 11
rate 0 1 7 -> ok 0 4
exchange 10 10 7 -> error 1
day 1 -> ok 1 4
day 9 -> ok 3 6
day 0 -> error 1
snapshot -> ok 0 3
account 10 -> account 10 balance 1000000 held 0 accrued 0
account 99 -> error 7
today -> 0001-02-09 open
agrees -> true
crash 0 -> crash 0
crash 1 -> crash 1
crash 1000 -> crash 1000
key 0 -> key 0
key 7 -> key 7
restart -> error 14
deposit 10 -> error 6
crash 1001 -> error 6
key -1 -> error 6
 -> error 6
`

func TestEachLineWithThePowerOn(t *testing.T) { // P22.2
	for _, p := range pairs(t, lines) {
		answers(t, 40, first+p.line+" -> "+p.answer)
	}
}

func TestEachLineWithThePowerOff(t *testing.T) { // P22.2
	for _, p := range pairs(t, lines) {
		want := "error 18"
		switch {
		case p.answer == "error 6" || strings.HasPrefix(p.line, "key"):
			want = p.answer
		case p.line == "restart":
			want = "ok 0 3"
		}
		table := first + off + p.line + " -> " + want + "\n"
		if p.line != "restart" {
			table += "today -> error 18\nrestart -> ok 0 3\n"
		}
		answers(t, 40, table+`
account 10 -> account 10 balance 1000000 held 0 accrued 0
today -> 0001-02-09 open
agrees -> true
`)
	}
}

func TestEachLineBehindARestart(t *testing.T) { // P22.2
	for _, p := range pairs(t, lines) {
		answers(t, 40, first+off+"restart -> ok 0 3\n"+p.line+" -> "+p.answer)
		answers(t, 40, first+"snapshot -> ok 0 3\n"+off+"restart -> ok 0 3\n"+p.line+" -> "+p.answer)
		answers(t, 40, first+off+off[strings.Index(off, "deposit"):]+"restart -> ok 0 3\n"+off+"restart -> ok 0 3\n"+p.line+" -> "+p.answer)
	}
}

// TestPowerOffFromTheBeginning: the very first event is not there.
func TestPowerOffFromTheBeginning(t *testing.T) { // P22.2
	for n := 1; n <= 2; n++ {
		answers(t, 40, fmt.Sprintf("crash %d -> crash %d\n", n, n)+`
snapshot -> error 3
product 1 1 0 1 1 0 0 500 0 36500000 -> error 18
account 10 -> error 18
snapshot -> error 18
agrees -> error 18
restart -> ok 0 0
agrees -> true
account 10 -> error 7
`+first)
	}
}

// TestCrashAtEachOperationOfACommand: it has two, and is acknowledged behind them; at the ninth event they are a new file's.
func TestCrashAtEachOperationOfACommand(t *testing.T) { // P22.2
	for more := range 8 {
		table, seq, balance := first, 3, 1000000
		for range more {
			seq, balance = seq+1, balance+1
			table += fmt.Sprintf("deposit 10 1 -> ok 1 %d\n", seq)
		}
		for n := 1; n <= 4; n++ {
			crash := fmt.Sprintf("crash %d -> crash %d\n", n, n)
			there := (n - 1) / 2 // so many are acknowledged
			if there == 1 {
				crash += fmt.Sprintf("deposit 10 5 -> ok 5 %d\n", seq+1)
			}
			answers(t, 40, table+crash+`
deposit 10 5 -> error 18
`+fmt.Sprintf("restart -> ok 0 %d\naccount 10 -> account 10 balance %d held 0 accrued 0\n", seq+there, balance+5*there)+`
agrees -> true
`+fmt.Sprintf("deposit 10 5 -> ok 5 %d\n", seq+there+1))
		}
	}
}

// TestCrashAtEachOperationOfAnEndOfDay: each of its events has two; those that were acknowledged are there, and the rest happens once.
func TestCrashAtEachOperationOfAnEndOfDay(t *testing.T) { // P22.2, P6
	lead := `
product 1 1 0 1 1 0 7 500 0 36500000 -> ok 0 1
open 10 1 -> ok 0 2
open 11 1 -> ok 0 3
deposit 10 1000000 -> ok 1000000 4
deposit 11 500000 -> ok 500000 5
`
	end := `
today -> 0001-02-01 open
account 10 -> account 10 balance 1000093 held 0 accrued 0
account 11 -> account 11 balance 500043 held 0 accrued 0
agrees -> true
`
	answers(t, january, lead+"day 4096 -> ok 8 13\n"+end)
	for n := 1; n <= 16; n++ {
		there := (n - 1) / 2
		table := lead + fmt.Sprintf("crash %d -> crash %d\nday 4096 -> error 18\ntoday -> error 18\nrestart -> ok 0 %d\n", n, n, 5+there)
		state := "running"
		if there == 0 {
			state = "open"
		}
		table += fmt.Sprintf("today -> 0001-01-31 %s\nagrees -> true\nday 4096 -> ok %d 13\n", state, 8-there)
		answers(t, january, table+end)
	}
	answers(t, january, lead+"crash 17 -> crash 17\nday 4096 -> ok 8 13\n"+end+"deposit 10 5 -> error 18\nrestart -> ok 0 13\n"+end)
}

// TestCrashAtEachOperationOfASnapshot: no event is lost, and the snapshot can be asked for again, though a draft of it was left.
func TestCrashAtEachOperationOfASnapshot(t *testing.T) { // P22.2, P5
	table, seq := first, 3
	deposits := func(count int) {
		for range count {
			seq++
			table += fmt.Sprintf("deposit 10 1 -> ok 1 %d\n", seq)
		}
	}
	look := func() string {
		return fmt.Sprintf("account 10 -> account 10 balance %d held 0 accrued 0\ntoday -> 0001-02-09 open\nagrees -> true\n", 1000000+seq-3)
	}
	crashes := func(ops int) {
		for n := 1; n <= ops; n++ {
			answers(t, 40, table+fmt.Sprintf("crash %d -> crash %d\nsnapshot -> error 18\n", n, n)+fmt.Sprintf("restart -> ok 0 %d\n", seq)+look()+
				fmt.Sprintf("snapshot -> ok 0 %d\n", seq)+look()+off+fmt.Sprintf("restart -> ok 0 %d\n", seq)+look()+fmt.Sprintf("deposit 10 5 -> ok 5 %d\n", seq+1))
		}
		answers(t, 40, table+fmt.Sprintf("crash %d -> crash %d\nsnapshot -> ok 0 %d\n", ops+1, ops+1, seq)+look()+"deposit 10 5 -> error 18\n"+fmt.Sprintf("restart -> ok 0 %d\n", seq)+look())
	}
	crashes(3) // a draft is written, synced, and has its name; the log has one file, which stays
	deposits(17)
	crashes(5) // and two files of the log go
	table += "snapshot -> ok 0 20\n"
	deposits(5)
	crashes(5) // the third file and the elder snapshot go
	table += "crash 2 -> crash 2\nsnapshot -> error 18\nrestart -> ok 0 25\n"
	crashes(6) // ahead of all that a draft that was left is removed
}

func TestCrashNought(t *testing.T) { // P22.2
	answers(t, 40, first+`
crash 0 -> crash 0
deposit 10 5 -> ok 5 4
crash 1 -> crash 1
crash 0 -> crash 0
deposit 10 5 -> ok 5 5
crash 1 -> crash 1
crash 3 -> crash 3
deposit 10 5 -> ok 5 6
crash 3 -> crash 3
deposit 10 5 -> ok 5 7
deposit 10 5 -> error 18
crash 0 -> error 18
deposit 10 5 -> error 18
restart -> ok 0 7
deposit 10 5 -> ok 5 8
`)
}

// TestCrashIsNotForLinesThatOnlyLook: they have no operations, and neither has what is refused.
func TestCrashIsNotForLinesThatOnlyLook(t *testing.T) { // P22.2
	answers(t, 40, first+`
crash 1 -> crash 1
account 10 -> account 10 balance 1000000 held 0 accrued 0
account 99 -> error 7
today -> 0001-02-09 open
agrees -> true
restart -> error 14
deposit 99 5 -> error 7
deposit 10 -> error 6
day 0 -> error 1
key 7 -> key 7
crash 1001 -> error 6
withdraw 10 1000501 -> error 13
today -> 0001-02-09 open
day 1 -> error 18
`)
}

// TestRestartTakesTheCrashAway: what was told of a power's going is told no more.
func TestRestartTakesTheCrashAway(t *testing.T) { // P22.2
	answers(t, 40, first+off+`
restart -> ok 0 3
deposit 10 5 -> ok 5 4
snapshot -> ok 0 4
day 9 -> ok 3 7
`)
}

// TestFarCrash: a thousand operations are five hundred events.
func TestFarCrash(t *testing.T) { // P22.2
	for _, more := range []int{0, 1} {
		script := fmt.Sprintf("crash %d\n", 1000-more) + fillers(500) + "today\nrestart\n"
		got := run(t, 40, script)
		if tail := "ok 0 499\nerror 18\nerror 18\nok 0 499\n"; !strings.HasSuffix(got, tail) {
			t.Errorf("of %.20q ..: .. %q, want .. %q", script, got[len(got)-60:], tail)
		}
	}
}
