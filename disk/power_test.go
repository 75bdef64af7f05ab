package disk_test

import (
	"testing"

	"passbook/api"
	"passbook/disk"
)

// twoFiles gives a disk with a: synced a b, unsynced c d; and m: synced m, unsynced n o, by six operations.
func twoFiles(t *testing.T) *disk.Disk {
	t.Helper()
	d := made(t, 12)
	answers(t, "Append", d.Append("m", sectors("m")), api.OK)
	answers(t, "Sync", d.Sync("m"), api.OK)
	answers(t, "Append", d.Append("m", sectors("no")), api.OK)
	answers(t, "Append", d.Append("a", sectors("ab")), api.OK)
	answers(t, "Sync", d.Sync("a"), api.OK)
	answers(t, "Append", d.Append("a", sectors("cd")), api.OK)
	return d
}

// operations: the five of them, each of which is refused for nothing on twoFiles.
func operations(d *disk.Disk) map[string]func() api.Errno {
	return map[string]func() api.Errno{
		"Append to a":          func() api.Errno { return d.Append("a", sectors("xy")) },
		"Append to b":          func() api.Errno { return d.Append("b", sectors("xy")) },
		"Append nothing to b":  func() api.Errno { return d.Append("b", nil) },
		"Sync a":               func() api.Errno { return d.Sync("a") },
		"Truncate a to 3":      func() api.Errno { return d.Truncate("a", 3) },
		"Truncate a to 1":      func() api.Errno { return d.Truncate("a", 1) },
		"Truncate m to 9":      func() api.Errno { return d.Truncate("m", 9) },
		"Rename a to z":        func() api.Errno { return d.Rename("a", "z") },
		"Rename a to m":        func() api.Errno { return d.Rename("a", "m") },
		"Rename a onto itself": func() api.Errno { return d.Rename("a", "a") },
		"Remove a":             func() api.Errno { return d.Remove("a") },
	}
}

// left: what the files hold, by their names, behind the power's going and coming again.
type left map[string]string

func TestPowerGoesAtEachOperation(t *testing.T) { // P9.3, P9.4
	untouched := left{"a": "abc-", "m": "mn-"}
	// With the unsynced sectors kept by turns, from the first one on.
	for what, want := range map[string][2]left{ // not done, done
		"Append to a":          {{"a": "abc-x-", "m": "mn-"}, {"a": "abc-x-", "m": "mn-"}},
		"Append to b":          {{"a": "abc-", "b": "x-", "m": "mn-"}, {"a": "abc-", "b": "x-", "m": "mn-"}},
		"Append nothing to b":  {{"a": "abc-", "b": "", "m": "mn-"}, {"a": "abc-", "b": "", "m": "mn-"}},
		"Sync a":               {untouched, {"a": "abcd", "m": "mn-"}},
		"Truncate a to 3":      {untouched, {"a": "abc", "m": "mn-"}},
		"Truncate a to 1":      {untouched, {"a": "a", "m": "mn-"}},
		"Truncate m to 9":      {untouched, {"a": "abc-", "m": "mno"}},
		"Rename a to z":        {untouched, {"m": "mn-", "z": "abc-"}},
		"Rename a to m":        {untouched, {"m": "abc-"}},
		"Rename a onto itself": {untouched, untouched},
		"Remove a":             {untouched, {"m": "mn-"}},
	} {
		for i, done := range []bool{false, true} {
			d := twoFiles(t)
			answers(t, "Arm", d.Arm(1), api.OK)
			answers(t, what, operations(d)[what](), api.ErrDown)
			if d.On() {
				t.Fatalf("%s: the power is on", what)
			}
			counted(t, d, 7)
			fate := disk.Fate{Done: done, Keep: []bool{true, false, true, false, true, false}}
			answers(t, what+": Restart", d.Restart(fate), api.OK)
			looksLike(t, d, what, want[i])
			counted(t, d, 7)
			// The operation is no more under way: neither a second time nor by what comes then.
			answers(t, "Arm", d.Arm(1), api.OK)
			answers(t, "Append", d.Append("q", nil), api.ErrDown)
			answers(t, "Restart", d.Restart(disk.Fate{Done: true}), api.OK)
			again := left{"q": ""}
			for name, letters := range want[i] {
				again[name] = letters
			}
			looksLike(t, d, what+" and another one", again)
		}
	}
}

func looksLike(t *testing.T, d *disk.Disk, what string, want left) {
	t.Helper()
	if !d.On() || len(d.Names()) != len(want) {
		t.Fatalf("%s: On = %t, Names = %q, want %v", what, d.On(), d.Names(), want)
	}
	for name, letters := range want {
		if p, e := d.Read(name); e != api.OK || string(p) != string(sectors(letters)) {
			t.Fatalf("%s: Read(%q) = %q, %d, want %q", what, name, p, e, letters)
		}
	}
}

func TestArmAtALaterOperation(t *testing.T) { // P9.3
	for n := 1; n <= 20; n++ {
		d := made(t, 100)
		answers(t, "Arm", d.Arm(n), api.OK)
		for i := 1; i < n; i++ {
			answers(t, "Append", d.Append("a", []byte{1}), api.OK)
			counted(t, d, i)
			if !d.On() {
				t.Fatalf("Arm(%d): the power went at operation %d", n, i)
			}
		}
		answers(t, "Append", d.Append("a", []byte{1}), api.ErrDown)
		counted(t, d, n)
		if d.On() {
			t.Fatalf("Arm(%d): the power is on", n)
		}
		// It goes once.
		answers(t, "Restart", d.Restart(disk.Fate{}), api.OK)
		for range 2 * n {
			answers(t, "Sync", d.Sync("a"), api.OK)
		}
		counted(t, d, 3*n)
	}
}

func TestArmCountsEachKindOnce(t *testing.T) { // P9.3
	for what := range operations(nil) {
		d := twoFiles(t)
		answers(t, "Arm", d.Arm(2), api.OK)
		answers(t, what, operations(d)[what](), api.OK)
		counted(t, d, 7)
		answers(t, "Append", d.Append("m", nil), api.ErrDown)
		counted(t, d, 8)
	}
}

func TestRefusedOperationsAreNotCounted(t *testing.T) { // P9.1, P9.3
	d := twoFiles(t)
	answers(t, "Arm", d.Arm(2), api.OK)
	answers(t, "Append of too much", d.Append("a", make([]byte, 6*32)), api.ErrFull)
	answers(t, "Append of a wrong name", d.Append("A", nil), api.ErrArg)
	answers(t, "Sync of none", d.Sync("b"), api.ErrNone)
	answers(t, "Sync of a wrong name", d.Sync(""), api.ErrArg)
	answers(t, "Truncate of none", d.Truncate("b", 0), api.ErrNone)
	answers(t, "Truncate below 0", d.Truncate("a", -1), api.ErrArg)
	answers(t, "Rename of none", d.Rename("b", "a"), api.ErrNone)
	answers(t, "Rename to a wrong name", d.Rename("a", "A"), api.ErrArg)
	answers(t, "Remove of none", d.Remove("b"), api.ErrNone)
	answers(t, "Arm below 0", d.Arm(-1), api.ErrArg)
	answers(t, "Restart", d.Restart(disk.Fate{Done: true}), api.ErrState)
	// Nor is what only looks.
	for range 3 {
		holds(t, d, "a", sectors("abcd"))
		names(t, d, "a", "m")
	}
	counted(t, d, 6)
	answers(t, "Sync", d.Sync("m"), api.OK)
	counted(t, d, 7)
	answers(t, "Sync", d.Sync("m"), api.ErrDown)
	counted(t, d, 8)
}

func TestArmOfNone(t *testing.T) { // P9.3
	d := made(t, 9)
	answers(t, "Arm", d.Arm(0), api.OK)
	for i := range 50 {
		answers(t, "Append", d.Append("a", nil), api.OK)
		counted(t, d, i+1)
	}
}

func TestLaterArmTakesThePlace(t *testing.T) { // P9.3
	d := made(t, 9)
	answers(t, "Arm", d.Arm(1), api.OK)
	answers(t, "Arm", d.Arm(3), api.OK)
	answers(t, "Append", d.Append("a", nil), api.OK)
	// From then on: what went before does not count.
	answers(t, "Arm", d.Arm(3), api.OK)
	answers(t, "Append", d.Append("a", nil), api.OK)
	answers(t, "Append", d.Append("a", nil), api.OK)
	// A wrong one takes no place.
	answers(t, "Arm", d.Arm(-5), api.ErrArg)
	answers(t, "Append", d.Append("a", nil), api.ErrDown)
	counted(t, d, 4)
	answers(t, "Restart", d.Restart(disk.Fate{}), api.OK)
	// Taken back by 0.
	answers(t, "Arm", d.Arm(2), api.OK)
	answers(t, "Append", d.Append("a", nil), api.OK)
	answers(t, "Arm", d.Arm(0), api.OK)
	for range 9 {
		answers(t, "Append", d.Append("a", nil), api.OK)
	}
	// The greatest one there is.
	answers(t, "Arm", d.Arm(1<<63-1), api.OK)
	answers(t, "Append", d.Append("a", nil), api.OK)
}

func TestRestartTakesBackAnArm(t *testing.T) { // P9.3, P9.4
	d := made(t, 9)
	answers(t, "Arm", d.Arm(1), api.OK)
	answers(t, "Append", d.Append("a", nil), api.ErrDown)
	// While the power is off an Arm does not work, and arms nothing for later.
	answers(t, "Arm", d.Arm(1), api.ErrDown)
	answers(t, "Arm", d.Arm(0), api.ErrDown)
	answers(t, "Restart", d.Restart(disk.Fate{}), api.OK)
	for range 9 {
		answers(t, "Append", d.Append("a", nil), api.OK)
	}
	counted(t, d, 10)
}

func TestRestartWhileOn(t *testing.T) { // P9.4
	d := twoFiles(t)
	answers(t, "Arm", d.Arm(2), api.OK)
	answers(t, "Restart", d.Restart(disk.Fate{}), api.ErrState)
	answers(t, "Restart", d.Restart(disk.Fate{Done: true, Keep: []bool{true}}), api.ErrState)
	// Refused is nothing: no sector is lost, none is synced, and the power goes as it was armed.
	looksLike(t, d, "Restart", left{"a": "abcd", "m": "mno"})
	answers(t, "Append", d.Append("b", nil), api.OK)
	answers(t, "Sync", d.Sync("b"), api.ErrDown)
	answers(t, "Restart", d.Restart(disk.Fate{}), api.OK)
	looksLike(t, d, "Restart", left{"a": "ab--", "b": "", "m": "m--"})
}

func TestNothingWorksWhileOff(t *testing.T) { // P9.1, P9.2, P9.3
	d := twoFiles(t)
	answers(t, "Arm", d.Arm(1), api.OK)
	answers(t, "Append", d.Append("a", sectors("e")), api.ErrDown)
	for what, operation := range operations(d) {
		answers(t, what, operation(), api.ErrDown)
	}
	answers(t, "Arm", d.Arm(3), api.ErrDown)
	if p, e := d.Read("a"); len(p) != 0 || e != api.ErrDown {
		t.Errorf("Read = %q, %d, want ErrDown", p, e)
	}
	if n, e := d.Size("a"); n != 0 || e != api.ErrDown {
		t.Errorf("Size = %d, %d, want ErrDown", n, e)
	}
	names(t, d)
	if d.On() {
		t.Error("the power is on")
	}
	counted(t, d, 7)
	// None of them is done later, either.
	answers(t, "Restart", d.Restart(disk.Fate{Done: true, Keep: []bool{true, true, true, true, true}}), api.OK)
	looksLike(t, d, "Restart", left{"a": "abcde", "m": "mno"})
	counted(t, d, 7)
}

func TestWhatComesWhileOffIsNotTheOperation(t *testing.T) { // P9.4
	d := twoFiles(t)
	answers(t, "Arm", d.Arm(1), api.OK)
	answers(t, "Remove", d.Remove("m"), api.ErrDown)
	answers(t, "Remove", d.Remove("a"), api.ErrDown)
	answers(t, "Sync", d.Sync("a"), api.ErrDown)
	answers(t, "Restart", d.Restart(disk.Fate{Done: true}), api.OK)
	looksLike(t, d, "Restart", left{"a": "ab--"})
}

func TestKeepOfEachLength(t *testing.T) { // P9.4
	for size := range 8 {
		for bits := range 1 << size {
			var keep []bool
			for i := range size {
				keep = append(keep, bits>>i&1 == 1)
			}
			d := twoFiles(t)
			answers(t, "Append", d.Append("k", sectors("k")), api.OK)
			answers(t, "Arm", d.Arm(1), api.OK)
			answers(t, "Append", d.Append("b", nil), api.ErrDown)
			answers(t, "Restart", d.Restart(disk.Fate{Keep: keep}), api.OK)
			// In the order of the names and of the sectors: c d of a, k of k, n o of m.
			written := []byte("cdkno")
			for i := range written {
				if i >= len(keep) || !keep[i] {
					written[i] = '-'
				}
			}
			looksLike(t, d, "Restart", left{
				"a": "ab" + string(written[:2]), "b": "", "k": string(written[2:3]), "m": "m" + string(written[3:]),
			})
		}
	}
}

func TestKeepIsInTheOrderBehindTheOperation(t *testing.T) { // P9.4
	for _, done := range []bool{false, true} {
		d := twoFiles(t)
		answers(t, "Arm", d.Arm(1), api.OK)
		answers(t, "Rename", d.Rename("a", "z"), api.ErrDown)
		answers(t, "Restart", d.Restart(disk.Fate{Done: done, Keep: []bool{true, true, false, true}}), api.OK)
		want := left{"a": "abcd", "m": "m-o"}
		if done {
			want = left{"m": "mno", "z": "ab-d"}
		}
		looksLike(t, d, "Rename", want)

		d = twoFiles(t)
		answers(t, "Arm", d.Arm(1), api.OK)
		answers(t, "Truncate", d.Truncate("a", 3), api.ErrDown)
		answers(t, "Restart", d.Restart(disk.Fate{Done: done, Keep: []bool{false, true}}), api.OK)
		want = left{"a": "ab-d", "m": "m--"}
		if done {
			want = left{"a": "abc", "m": "m-o"}
		}
		looksLike(t, d, "Truncate", want)
	}
}

func TestAllIsSyncedBehindRestart(t *testing.T) { // P9.4
	d := twoFiles(t)
	answers(t, "Arm", d.Arm(1), api.OK)
	answers(t, "Append", d.Append("b", sectors("xy")), api.ErrDown)
	answers(t, "Restart", d.Restart(disk.Fate{Keep: []bool{true, false, true, false, true, false}}), api.OK)
	for range 3 {
		looksLike(t, d, "Restart", left{"a": "abc-", "b": "x-", "m": "mn-"})
		lost(t, d, "m")
	}
	// What is appended then is not.
	answers(t, "Append", d.Append("a", sectors("e")), api.OK)
	lost(t, d, "m")
	looksLike(t, d, "Restart", left{"a": "abc--", "b": "x-", "m": "mn-"})
}

func TestRoomOfAnOperationThatIsNotDone(t *testing.T) { // P9.1, P9.4
	for _, done := range []bool{false, true} {
		d := made(t, 3)
		answers(t, "Append", d.Append("a", sectors("abc")), api.OK)
		answers(t, "Arm", d.Arm(1), api.OK)
		answers(t, "Remove", d.Remove("a"), api.ErrDown)
		answers(t, "Append while off", d.Append("b", sectors("x")), api.ErrFull)
		answers(t, "Restart", d.Restart(disk.Fate{Done: done}), api.OK)
		want := api.ErrFull
		if done {
			want = api.OK
		}
		answers(t, "Append", d.Append("b", sectors("xyz")), want)
	}
}

func TestAppendAtWhichThePowerGoesTakesRoom(t *testing.T) { // P9.1, P9.3
	d := made(t, 3)
	answers(t, "Arm", d.Arm(1), api.OK)
	answers(t, "Append", d.Append("a", sectors("ab")), api.ErrDown)
	answers(t, "Append while off", d.Append("a", sectors("xy")), api.ErrFull)
	answers(t, "Append while off", d.Append("a", sectors("x")), api.ErrDown)
	answers(t, "Restart", d.Restart(disk.Fate{}), api.OK)
	answers(t, "Append", d.Append("b", sectors("xy")), api.ErrFull)
	answers(t, "Append", d.Append("b", sectors("x")), api.OK)
	holds(t, d, "a", sectors("--"))
	// An Append that is refused for want of room is not the one at which the power goes.
	answers(t, "Arm", d.Arm(1), api.OK)
	answers(t, "Append", d.Append("b", sectors("x")), api.ErrFull)
	if !d.On() {
		t.Fatal("the power is off")
	}
	answers(t, "Append", d.Append("b", nil), api.ErrDown)
}
