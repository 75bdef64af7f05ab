package shell_test

import (
	"fmt"
	"strings"
	"testing"
)

// tail: the answers of a table's lines, told behind a script.
func tail(t *testing.T, day int, script, table string) {
	t.Helper()
	want := ""
	for _, p := range pairs(t, table) {
		script, want = script+p.line+"\n", want+p.answer+"\n"
	}
	got := run(t, day, script)
	lines := strings.SplitAfter(got, "\n")
	if got := strings.Join(lines[len(lines)-1-strings.Count(want, "\n"):], ""); got != want {
		t.Fatalf("the last answers are\n%s, want\n%s", got, want)
	}
}

// TestFullOfFiles: with eight events a file the disk has no room for a file more behind 512, not for a snapshot's either; all that only looks goes on.
func TestFullOfFiles(t *testing.T) { // P22.2
	script := scriptOf(t, first) + fillers(maxFull-4)
	tail(t, 40, script, `
deposit 10 5 -> ok 5 512
deposit 10 5 -> error 17
rate 0 1 5 -> error 17
day 9 -> error 17
snapshot -> error 17
deposit 99 5 -> error 7
deposit 10 -> error 6
account 10 -> account 10 balance 1000005 held 0 accrued 0
today -> 0001-02-09 open
agrees -> true
restart -> error 14
crash 1 -> crash 1
deposit 10 5 -> error 17
snapshot -> error 17
today -> 0001-02-09 open
key 7 -> key 7
deposit 10 5 -> error 17
deposit 10 5 -> error 17
agrees -> true
`)
}

// TestFullBehindACrash: the bank is opened again, and is as full.
func TestFullBehindACrash(t *testing.T) { // P22.2
	script := scriptOf(t, first) + fillers(maxFull-4)
	tail(t, 40, script, `
crash 2 -> crash 2
deposit 10 5 -> error 18
restart -> ok 0 511
deposit 10 5 -> ok 5 512
deposit 10 5 -> error 17
account 10 -> account 10 balance 1000005 held 0 accrued 0
agrees -> true
`)
}

// TestSnapshotMakesRoom: told in time, it frees the files ahead of the last one.
func TestSnapshotMakesRoom(t *testing.T) { // P22.2
	script := scriptOf(t, first) + fillers(maxFull-8-3)
	tail(t, 40, script, `
snapshot -> ok 0 504
`)
	tail(t, 40, script+"rate 0 1 5\n", `
snapshot -> error 17
`)
	script += "snapshot\n" + fillers(maxFull-16-4) // the last file stays, and the snapshot is one, too
	tail(t, 40, script, `
deposit 10 5 -> ok 5 997
day 2 -> ok 2 999
day 9 -> ok 1 1000
deposit 10 5 -> error 17
snapshot -> error 17
agrees -> true
`)
}

// TestFullInAnEndOfDay: what happened of it stays, and is told by the events' number.
func TestFullInAnEndOfDay(t *testing.T) { // P22.2
	for room := range 4 {
		script := scriptOf(t, first) + fillers(maxFull-3-room)
		want := "error 17"
		state := "running"
		accrued := 0
		switch room {
		case 0:
			state = "open"
		case 2:
			accrued = 100000000
		case 3:
			want, state, accrued = "ok 3 512", "open", 100000000
		}
		day := 9
		if room == 3 {
			day = 10
		}
		tail(t, 40, script, fmt.Sprintf("day 9 -> %s\ntoday -> 0001-02-%02d %s\naccount 10 -> account 10 balance 1000000 held 0 accrued %d\nagrees -> true\nday 1 -> error 17\n", want, day, state, accrued))
	}
}

// TestFullOfSectors: with a snapshot now and then the bank grows, till two snapshots have no room beside each other, and the log none beside one.
func TestFullOfSectors(t *testing.T) { // P22.2
	script := scriptOf(t, first)
	for i := range 60 {
		script += fmt.Sprintf("open %d 1\n", 100+i)
	}
	script += repeated("day 400\nsnapshot", 120)
	got := run(t, 40, script+"agrees\n")
	if got != plainRun(t, 40, script+"agrees\n") {
		t.Fatal("by calls the replies are others")
	}
	lines := strings.Split(strings.TrimSuffix(got, "\n"), "\n")
	last := lines[len(lines)-1]
	if lines = lines[len(lines)-3:]; lines[0] != "error 17" || lines[1] != "error 17" || last != "true" {
		t.Fatalf("the disk is not full: %q", lines)
	}
	if strings.Count(got, "ok 0 ") < 70 {
		t.Fatalf("there were no snapshots: %.1000q", got)
	}
	tail(t, 40, script+"crash 1\nrestart\n", `
restart -> error 14
deposit 10 5 -> error 14
snapshot -> error 17
agrees -> true
`)
}

// TestToTheLastSector: a snapshot that just fits is written, and one that needs a sector more is not.
func TestToTheLastSector(t *testing.T) { // P22.2
	for _, c := range []struct {
		rates, steps, other int
		last                string
	}{
		{7, 20, 3999, "ok 0 6441"}, // all 4000 sectors are needed
		{0, 22, 4001, "error 17"},  // one more
	} {
		script := repeated("rate 0 1 1000000000000", c.rates) + scriptOf(t, first)
		for i := range 60 {
			script += fmt.Sprintf("open %d 1\n", 100+i)
		}
		script += repeated(strings.Repeat("day 400\n", 3)+"snapshot", 31) + repeated("day 400", 2) + repeated("day 1", c.steps) + "snapshot\n"
		if got := lastOf(t, 40, script); got != c.last {
			t.Errorf("the last snapshot is answered %q, want %q", got, c.last)
		}
		if plainRunOn(t, c.other, 40, script) == plainRunOn(t, 4000, 40, script) {
			t.Errorf("a disk of %d sectors would do the same", c.other)
		}
	}
}
