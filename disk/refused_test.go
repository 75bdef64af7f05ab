package disk_test

import (
	"bytes"
	"slices"
	"testing"

	"passbook/api"
	"passbook/disk"
)

// off gives a disk of three sectors whose power is off, with the file a, which has all of them.
func off(t *testing.T) *disk.Disk {
	t.Helper()
	d := made(t, 3)
	answers(t, "Append", d.Append("a", sectors("abc")), api.OK)
	answers(t, "Arm", d.Arm(1), api.OK)
	answers(t, "Sync", d.Sync("a"), api.ErrDown)
	return d
}

func TestNilDisk(t *testing.T) { // P9.1, P9.2, P9.3, P9.4
	var d *disk.Disk
	answers(t, "Append", d.Append("a", nil), api.ErrNone)
	answers(t, "Append of much", d.Append("a", make([]byte, 32*api.MaxSectors+1)), api.ErrNone)
	answers(t, "Append of a wrong name", d.Append("A", nil), api.ErrArg)
	answers(t, "Sync", d.Sync("a"), api.ErrNone)
	answers(t, "Sync of a wrong name", d.Sync(""), api.ErrArg)
	answers(t, "Truncate", d.Truncate("a", 0), api.ErrNone)
	answers(t, "Truncate of a wrong name", d.Truncate("", 0), api.ErrArg)
	answers(t, "Truncate below 0", d.Truncate("a", -1), api.ErrArg)
	answers(t, "Rename", d.Rename("a", "b"), api.ErrNone)
	answers(t, "Rename onto itself", d.Rename("a", "a"), api.ErrNone)
	answers(t, "Rename of a wrong name", d.Rename("A", "b"), api.ErrArg)
	answers(t, "Rename to a wrong name", d.Rename("a", "B"), api.ErrArg)
	answers(t, "Remove", d.Remove("a"), api.ErrNone)
	answers(t, "Remove of a wrong name", d.Remove("A"), api.ErrArg)
	answers(t, "Arm", d.Arm(1), api.ErrNone)
	answers(t, "Arm of none", d.Arm(0), api.ErrNone)
	answers(t, "Arm below 0", d.Arm(-1), api.ErrArg)
	answers(t, "Restart", d.Restart(disk.Fate{Done: true, Keep: []bool{true}}), api.ErrNone)
	if p, e := d.Read("a"); len(p) != 0 || e != api.ErrNone {
		t.Errorf("Read = %q, %d, want ErrNone", p, e)
	}
	if p, e := d.Read("A"); len(p) != 0 || e != api.ErrArg {
		t.Errorf("Read of a wrong name = %q, %d, want ErrArg", p, e)
	}
	if n, e := d.Size("a"); n != 0 || e != api.ErrNone {
		t.Errorf("Size = %d, %d, want ErrNone", n, e)
	}
	if n, e := d.Size("A"); n != 0 || e != api.ErrArg {
		t.Errorf("Size of a wrong name = %d, %d, want ErrArg", n, e)
	}
	if len(d.Names()) != 0 || d.On() || d.Ops() != 0 {
		t.Errorf("Names = %q, On = %t, Ops = %d", d.Names(), d.On(), d.Ops())
	}
}

func TestOrderOfErrorsWhileOn(t *testing.T) { // P9.1
	d := made(t, 1)
	answers(t, "Append of a wrong name, too much", d.Append("A", make([]byte, 33)), api.ErrArg)
	answers(t, "Append of too much", d.Append("a", make([]byte, 33)), api.ErrFull)
	answers(t, "Truncate of none, below 0", d.Truncate("a", -1), api.ErrArg)
	answers(t, "Truncate of none", d.Truncate("a", 0), api.ErrNone)
	answers(t, "Rename of none, to a wrong name", d.Rename("a", "B"), api.ErrArg)
	answers(t, "Rename of none", d.Rename("a", "b"), api.ErrNone)
	answers(t, "Sync of none", d.Sync("a"), api.ErrNone)
	answers(t, "Remove of none", d.Remove("a"), api.ErrNone)
	isGone(t, d, "a")
	counted(t, d, 0)
	// The power would go at the next operation: what is refused for something else is none.
	answers(t, "Arm", d.Arm(1), api.OK)
	answers(t, "Append of too much", d.Append("a", make([]byte, 33)), api.ErrFull)
	answers(t, "Sync of none", d.Sync("a"), api.ErrNone)
	answers(t, "Truncate of none", d.Truncate("a", 0), api.ErrNone)
	answers(t, "Rename of none", d.Rename("a", "a"), api.ErrNone)
	answers(t, "Remove of none", d.Remove("a"), api.ErrNone)
	if !d.On() {
		t.Fatal("the power went")
	}
	counted(t, d, 0)
}

func TestOrderOfErrorsWhileOff(t *testing.T) { // P9.1, P9.2, P9.3
	d := off(t)
	answers(t, "Append of a wrong name, too much", d.Append("A", sectors("x")), api.ErrArg)
	answers(t, "Append of too much", d.Append("a", sectors("x")), api.ErrFull)
	answers(t, "Append of too much to none", d.Append("b", sectors("x")), api.ErrFull)
	answers(t, "Append", d.Append("a", nil), api.ErrDown)
	answers(t, "Append to none", d.Append("b", nil), api.ErrDown)
	answers(t, "Sync of a wrong name", d.Sync("A"), api.ErrArg)
	answers(t, "Sync of none", d.Sync("b"), api.ErrNone)
	answers(t, "Sync", d.Sync("a"), api.ErrDown)
	answers(t, "Truncate of none, below 0", d.Truncate("b", -1), api.ErrArg)
	answers(t, "Truncate below 0", d.Truncate("a", -1), api.ErrArg)
	answers(t, "Truncate of none", d.Truncate("b", 0), api.ErrNone)
	answers(t, "Truncate", d.Truncate("a", 0), api.ErrDown)
	answers(t, "Rename to a wrong name", d.Rename("a", "B"), api.ErrArg)
	answers(t, "Rename of none", d.Rename("b", "a"), api.ErrNone)
	answers(t, "Rename", d.Rename("a", "b"), api.ErrDown)
	answers(t, "Remove of a wrong name", d.Remove("A"), api.ErrArg)
	answers(t, "Remove of none", d.Remove("b"), api.ErrNone)
	answers(t, "Remove", d.Remove("a"), api.ErrDown)
	answers(t, "Arm below 0", d.Arm(-1), api.ErrArg)
	answers(t, "Arm", d.Arm(0), api.ErrDown)
	for name, want := range map[string]api.Errno{"A": api.ErrArg, "b": api.ErrNone, "a": api.ErrDown} {
		if p, e := d.Read(name); len(p) != 0 || e != want {
			t.Errorf("Read(%q) = %q, %d, want %d", name, p, e, want)
		}
		if n, e := d.Size(name); n != 0 || e != want {
			t.Errorf("Size(%q) = %d, %d, want %d", name, n, e, want)
		}
	}
	counted(t, d, 2)
	answers(t, "Restart", d.Restart(disk.Fate{Done: true}), api.OK)
	names(t, d, "a")
	holds(t, d, "a", sectors("abc"))
}

func TestOneFileMoreWhileOff(t *testing.T) { // P9.1
	d := made(t, 3)
	for _, name := range someNames(api.MaxFiles) {
		answers(t, "Append", d.Append(name, nil), api.OK)
	}
	answers(t, "Arm", d.Arm(1), api.OK)
	answers(t, "Remove", d.Remove("f00"), api.ErrDown)
	answers(t, "Append of one file more", d.Append("more", nil), api.ErrFull)
	answers(t, "Append", d.Append("f00", nil), api.ErrDown)
}

func TestWhatIsHandedInIsNeitherChangedNorKept(t *testing.T) { // P9.1, P9.4
	for _, count := range []int{0, 1, 31, 32, 33, 64, 100} {
		whole := filled('x', 200)
		p := whole[50 : 50+count] // with spare room behind it
		d := made(t, 12)
		answers(t, "Append", d.Append("a", p), api.OK)
		answers(t, "Append", d.Append("a", p), api.OK)
		answers(t, "Arm", d.Arm(1), api.OK)
		answers(t, "Append", d.Append("a", p), api.ErrDown)
		if !bytes.Equal(whole, filled('x', 200)) {
			t.Fatalf("Append of %d bytes has changed what was handed in: %q", count, whole)
		}
		clear(whole)
		keep := slices.Repeat([]bool{true}, 30)
		answers(t, "Restart", d.Restart(disk.Fate{Keep: keep[:20]}), api.OK)
		if slices.Contains(keep, false) {
			t.Fatalf("Restart has changed what was handed in: %v", keep)
		}
		one := append(filled('x', count), make([]byte, (32-count%32)%32)...)
		holds(t, d, "a", bytes.Repeat(one, 3))
	}
}

func TestAnswersAreNewMemory(t *testing.T) { // P9.2
	d := made(t, 9)
	answers(t, "Append", d.Append("a", sectors("ab")), api.OK)
	answers(t, "Append", d.Append("b", nil), api.OK)
	spoil := func() {
		p, _ := d.Read("a")
		p = p[:cap(p)]
		clear(p)
		all := d.Names()
		all = all[:cap(all)]
		for i := range all {
			all[i] = "spoilt"
		}
	}
	first, _ := d.Read("a")
	list := d.Names()
	spoil()
	if !bytes.Equal(first, sectors("ab")) || !slices.Equal(list, []string{"a", "b"}) {
		t.Fatalf("an earlier answer has changed: %q, %q", first, list)
	}
	holds(t, d, "a", sectors("ab"))
	names(t, d, "a", "b")
	// What happens later changes no earlier answer.
	answers(t, "Append", d.Append("a", sectors("c")), api.OK)
	spoil()
	lost(t, d, "b")
	holds(t, d, "a", sectors("---"))
	answers(t, "Truncate", d.Truncate("a", 1), api.OK)
	answers(t, "Append", d.Append("a", sectors("z")), api.OK)
	answers(t, "Remove", d.Remove("b"), api.OK)
	if !bytes.Equal(first, sectors("ab")) || !slices.Equal(list, []string{"a", "b"}) {
		t.Fatalf("an earlier answer has changed: %q, %q", first, list)
	}
	holds(t, d, "a", sectors("-z"))
}

func TestTwoDisksShareNothing(t *testing.T) { // P9.1, P9.3
	one, two := made(t, 3), made(t, 3)
	p := sectors("abc")
	answers(t, "Append", one.Append("a", p), api.OK)
	answers(t, "Append", two.Append("a", p), api.OK)
	answers(t, "Truncate", one.Truncate("a", 1), api.OK)
	answers(t, "Append", one.Append("a", sectors("x")), api.OK)
	answers(t, "Arm", one.Arm(1), api.OK)
	answers(t, "Remove", one.Remove("a"), api.ErrDown)
	holds(t, two, "a", sectors("abc"))
	counted(t, one, 4)
	counted(t, two, 1)
	if one.On() || !two.On() {
		t.Errorf("On = %t, %t", one.On(), two.On())
	}
}
