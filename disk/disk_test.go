package disk_test

import (
	"bytes"
	"slices"
	"strings"
	"testing"

	"passbook/api"
	"passbook/disk"
)

func made(t *testing.T, sectors int) *disk.Disk {
	t.Helper()
	d, e := disk.New(sectors)
	if e != api.OK || d == nil {
		t.Fatalf("New(%d) = %v, %d", sectors, d, e)
	}
	return d
}

func answers(t *testing.T, what string, got, want api.Errno) {
	t.Helper()
	if got != want {
		t.Fatalf("%s answers %d, want %d", what, got, want)
	}
}

// filled gives count bytes of one value.
func filled(b byte, count int) []byte { return bytes.Repeat([]byte{b}, count) }

// sectors gives a whole sector for each letter, of that letter; - is a sector of noughts.
func sectors(letters string) []byte {
	var p []byte
	for _, c := range []byte(letters) {
		if c == '-' {
			c = 0
		}
		p = append(p, filled(c, api.Sector)...)
	}
	return p
}

func holds(t *testing.T, d *disk.Disk, name string, want []byte) {
	t.Helper()
	if p, e := d.Read(name); e != api.OK || !bytes.Equal(p, want) {
		t.Fatalf("Read(%q) = %q, %d, want %q", name, p, e, want)
	}
	if n, e := d.Size(name); e != api.OK || n != len(want)/api.Sector {
		t.Fatalf("Size(%q) = %d, %d, want %d", name, n, e, len(want)/api.Sector)
	}
}

func isGone(t *testing.T, d *disk.Disk, name string) {
	t.Helper()
	if p, e := d.Read(name); e != api.ErrNone || len(p) != 0 {
		t.Fatalf("Read(%q) = %q, %d, want ErrNone", name, p, e)
	}
	if n, e := d.Size(name); e != api.ErrNone || n != 0 {
		t.Fatalf("Size(%q) = %d, %d, want ErrNone", name, n, e)
	}
}

func names(t *testing.T, d *disk.Disk, want ...string) {
	t.Helper()
	if got := d.Names(); !slices.Equal(got, want) {
		t.Fatalf("Names = %q, want %q", got, want)
	}
}

func counted(t *testing.T, d *disk.Disk, want int) {
	t.Helper()
	if got := d.Ops(); got != want {
		t.Fatalf("Ops = %d, want %d", got, want)
	}
}

// lost lets the power go at a Sync that isn't done, and come again with nothing kept: all that is left was synced.
func lost(t *testing.T, d *disk.Disk, name string) {
	t.Helper()
	answers(t, "Arm(1)", d.Arm(1), api.OK)
	answers(t, "Sync", d.Sync(name), api.ErrDown)
	answers(t, "Restart", d.Restart(disk.Fate{}), api.OK)
}

func TestFirstExample(t *testing.T) { // P9.1, P9.2, P9.3, P9.4
	d := made(t, 4)
	first := append(sectors("x"), 'y')
	answers(t, "Append(a)", d.Append("a", first), api.OK)
	holds(t, d, "a", append(first, make([]byte, 31)...))
	answers(t, "Append(b)", d.Append("b", make([]byte, 96)), api.ErrFull)
	answers(t, "Arm", d.Arm(1), api.OK)
	answers(t, "Append(a)", d.Append("a", []byte{'z'}), api.ErrDown)
	if d.On() {
		t.Fatal("the power is on")
	}
	counted(t, d, 2)
	answers(t, "Restart", d.Restart(disk.Fate{Keep: []bool{false, true, true}}), api.OK)
	want := sectors("---")
	want[32], want[64] = 'y', 'z'
	holds(t, d, "a", want)
}

func TestSecondExample(t *testing.T) { // P9.1, P9.3, P9.4
	d := made(t, 4)
	answers(t, "Append", d.Append("a", sectors("xyz")), api.OK)
	answers(t, "Arm", d.Arm(1), api.OK)
	answers(t, "Sync", d.Sync("a"), api.ErrDown)
	answers(t, "Restart", d.Restart(disk.Fate{Done: true}), api.OK)
	holds(t, d, "a", sectors("xyz"))
	answers(t, "Restart again", d.Restart(disk.Fate{}), api.ErrState)
	answers(t, "Append(A)", d.Append("A", nil), api.ErrArg)
}

func TestNew(t *testing.T) { // P9.1
	for _, n := range []int{0, -1, api.MaxSectors + 1, -1 << 63, 1<<63 - 1} {
		if d, e := disk.New(n); d != nil || e != api.ErrArg {
			t.Errorf("New(%d) = %v, %d, want nil, ErrArg", n, d, e)
		}
	}
	for _, n := range []int{1, 2, api.MaxSectors - 1, api.MaxSectors} {
		d := made(t, n)
		if !d.On() || d.Ops() != 0 || len(d.Names()) != 0 {
			t.Errorf("New(%d): On = %t, Ops = %d, Names = %q", n, d.On(), d.Ops(), d.Names())
		}
	}
}

func TestAppendMakesWholeSectors(t *testing.T) { // P9.1, P9.2
	for count := range 4*api.Sector + 2 {
		d := made(t, 5)
		answers(t, "Append", d.Append("a", filled(7, count)), api.OK)
		whole := (count + 31) / 32 * 32
		holds(t, d, "a", append(filled(7, count), make([]byte, whole-count)...))
		names(t, d, "a")
	}
}

func TestAppendStandsBehind(t *testing.T) { // P9.1, P9.2
	d := made(t, 100)
	var want []byte
	for i, count := range []int{1, 32, 0, 31, 33, 64, 65, 0, 500} {
		p := filled(byte(i+1), count)
		answers(t, "Append", d.Append("a", p), api.OK)
		want = append(want, p...)
		want = append(want, make([]byte, (32-count%32)%32)...)
		holds(t, d, "a", want)
	}
}

func TestAppendOfAllBytes(t *testing.T) { // P9.1, P9.2
	var p []byte
	for b := range 256 {
		p = append(p, byte(b))
	}
	d := made(t, 8)
	answers(t, "Append", d.Append("a", p), api.OK)
	holds(t, d, "a", p)
}

func TestAppendOfNothing(t *testing.T) { // P9.1
	for _, p := range [][]byte{nil, {}} {
		d := made(t, 1)
		answers(t, "Append", d.Append("a", p), api.OK)
		holds(t, d, "a", nil)
		names(t, d, "a")
		counted(t, d, 1)
		// On a full disk, too, for it needs no room.
		answers(t, "Append", d.Append("a", sectors("x")), api.OK)
		answers(t, "Append", d.Append("a", p), api.OK)
		answers(t, "Append", d.Append("b", p), api.OK)
		holds(t, d, "a", sectors("x"))
		names(t, d, "a", "b")
		counted(t, d, 4)
	}
}

func TestRoom(t *testing.T) { // P9.1
	for _, room := range []int{1, 2, 7, api.MaxSectors} {
		d := made(t, room)
		answers(t, "Append of more", d.Append("a", make([]byte, 32*room+1)), api.ErrFull)
		names(t, d)
		answers(t, "Append of all", d.Append("a", make([]byte, 32*room-31)), api.OK)
		answers(t, "Append of one more", d.Append("a", []byte{1}), api.ErrFull)
		answers(t, "Append of one more", d.Append("b", []byte{1}), api.ErrFull)
		names(t, d, "a")
		holds(t, d, "a", make([]byte, 32*room))
		counted(t, d, 1)
	}
}

func TestRoomOfAllFilesTogether(t *testing.T) { // P9.1
	d := made(t, 6)
	answers(t, "Append", d.Append("a", sectors("ab")), api.OK)
	answers(t, "Append", d.Append("b", sectors("cd")), api.OK)
	answers(t, "Append", d.Append("c", sectors("efg")), api.ErrFull)
	answers(t, "Append", d.Append("c", sectors("ef")), api.OK)
	answers(t, "Append", d.Append("a", sectors("g")), api.ErrFull)
	names(t, d, "a", "b", "c")
	counted(t, d, 3)
}

func TestRoomComesBack(t *testing.T) { // P9.1
	full := func() *disk.Disk {
		d := made(t, 5)
		answers(t, "Append", d.Append("a", sectors("abc")), api.OK)
		answers(t, "Append", d.Append("b", sectors("de")), api.OK)
		return d
	}
	d := full()
	answers(t, "Truncate", d.Truncate("a", 1), api.OK)
	answers(t, "Append", d.Append("b", sectors("xyz")), api.ErrFull)
	answers(t, "Append", d.Append("b", sectors("xy")), api.OK)
	d = full()
	answers(t, "Remove", d.Remove("a"), api.OK)
	answers(t, "Append", d.Append("c", sectors("wxyz")), api.ErrFull)
	answers(t, "Append", d.Append("c", sectors("xyz")), api.OK)
	d = full()
	answers(t, "Rename", d.Rename("a", "b"), api.OK)
	answers(t, "Append", d.Append("b", sectors("xyz")), api.ErrFull)
	answers(t, "Append", d.Append("b", sectors("xy")), api.OK)
	holds(t, d, "b", sectors("abcxy"))
}

// someNames gives count names, the n-th of them of n's digits.
func someNames(count int) []string {
	var out []string
	for i := range count {
		out = append(out, string([]byte{'f', byte('0' + i/10), byte('0' + i%10)}))
	}
	return out
}

func TestMaxFiles(t *testing.T) { // P9.1
	d := made(t, 10)
	all := someNames(api.MaxFiles)
	for _, name := range all {
		answers(t, "Append("+name+")", d.Append(name, nil), api.OK)
	}
	for _, p := range [][]byte{nil, {1}, make([]byte, 400)} {
		answers(t, "Append of one file more", d.Append("more", p), api.ErrFull)
	}
	names(t, d, all...)
	counted(t, d, api.MaxFiles)
	answers(t, "Append to one that is there", d.Append("f63", []byte{1}), api.OK)
	answers(t, "Rename", d.Rename("f00", "more"), api.OK)
	answers(t, "Append of one file more", d.Append("f00", nil), api.ErrFull)
	answers(t, "Rename onto another", d.Rename("more", "f01"), api.OK)
	answers(t, "Append behind that", d.Append("f00", nil), api.OK)
	answers(t, "Append of one file more", d.Append("more", nil), api.ErrFull)
	answers(t, "Remove", d.Remove("f30"), api.OK)
	answers(t, "Append behind that", d.Append("more", nil), api.OK)
	answers(t, "Append of one file more", d.Append("f30", nil), api.ErrFull)
}

func TestSync(t *testing.T) { // P9.1
	d := made(t, 9)
	answers(t, "Append", d.Append("a", sectors("abc")), api.OK)
	answers(t, "Append", d.Append("b", sectors("xyz")), api.OK)
	answers(t, "Sync", d.Sync("a"), api.OK)
	answers(t, "Append", d.Append("a", sectors("de")), api.OK)
	holds(t, d, "a", sectors("abcde"))
	lost(t, d, "b")
	holds(t, d, "a", sectors("abc--"))
	holds(t, d, "b", sectors("---"))
}

func TestTruncate(t *testing.T) { // P9.1
	for n, want := range map[int]string{0: "", 1: "a", 2: "ab", 3: "abc", 4: "abcd", 5: "abcd", 65536: "abcd", 1<<63 - 1: "abcd"} {
		d := made(t, 9)
		answers(t, "Append", d.Append("a", sectors("ab")), api.OK)
		answers(t, "Sync", d.Sync("a"), api.OK)
		answers(t, "Append", d.Append("a", sectors("cd")), api.OK)
		answers(t, "Append", d.Append("b", sectors("x")), api.OK)
		answers(t, "Truncate", d.Truncate("a", n), api.OK)
		holds(t, d, "a", sectors(want))
		holds(t, d, "b", sectors("x"))
		names(t, d, "a", "b")
		// What stays is synced; what is appended then is not.
		answers(t, "Append", d.Append("a", sectors("ef")), api.OK)
		holds(t, d, "a", sectors(want+"ef"))
		lost(t, d, "b")
		holds(t, d, "a", sectors(want+"--"))
		holds(t, d, "b", sectors("-"))
	}
}

func TestTruncateBelowNought(t *testing.T) { // P9.1
	for _, n := range []int{-1, -2, -1 << 63} {
		d := made(t, 9)
		answers(t, "Append", d.Append("a", sectors("ab")), api.OK)
		answers(t, "Truncate", d.Truncate("a", n), api.ErrArg)
		holds(t, d, "a", sectors("ab"))
		counted(t, d, 1)
		lost(t, d, "a")
		holds(t, d, "a", sectors("--"))
	}
}

func TestRename(t *testing.T) { // P9.1
	d := made(t, 9)
	answers(t, "Append", d.Append("b", sectors("ab")), api.OK)
	answers(t, "Sync", d.Sync("b"), api.OK)
	answers(t, "Append", d.Append("b", sectors("c")), api.OK)
	answers(t, "Append", d.Append("c", sectors("xy")), api.OK)
	answers(t, "Rename to none", d.Rename("b", "z9"), api.OK)
	names(t, d, "c", "z9")
	isGone(t, d, "b")
	holds(t, d, "z9", sectors("abc"))
	answers(t, "Rename onto another", d.Rename("z9", "c"), api.OK)
	names(t, d, "c")
	isGone(t, d, "z9")
	holds(t, d, "c", sectors("abc"))
	counted(t, d, 6)
	// Each sector is synced, or not, as it was.
	lost(t, d, "c")
	holds(t, d, "c", sectors("ab-"))
	// The name that is free again is a new file's.
	answers(t, "Append", d.Append("b", sectors("n")), api.OK)
	holds(t, d, "b", sectors("n"))
	holds(t, d, "c", sectors("ab-"))
}

func TestRenameOntoItself(t *testing.T) { // P9.1
	d := made(t, 9)
	answers(t, "Append", d.Append("a", sectors("ab")), api.OK)
	answers(t, "Sync", d.Sync("a"), api.OK)
	answers(t, "Append", d.Append("a", sectors("c")), api.OK)
	answers(t, "Rename", d.Rename("a", "a"), api.OK)
	names(t, d, "a")
	holds(t, d, "a", sectors("abc"))
	counted(t, d, 4)
	answers(t, "Rename of none", d.Rename("b", "b"), api.ErrNone)
	counted(t, d, 4)
	for _, done := range []bool{false, true} {
		answers(t, "Arm", d.Arm(1), api.OK)
		answers(t, "Rename", d.Rename("a", "a"), api.ErrDown)
		answers(t, "Restart", d.Restart(disk.Fate{Done: done}), api.OK)
		holds(t, d, "a", sectors("ab-"))
	}
	counted(t, d, 6)
}

func TestRemove(t *testing.T) { // P9.1
	d := made(t, 9)
	answers(t, "Append", d.Append("a", sectors("ab")), api.OK)
	answers(t, "Append", d.Append("b", sectors("c")), api.OK)
	answers(t, "Sync", d.Sync("a"), api.OK)
	answers(t, "Remove", d.Remove("a"), api.OK)
	names(t, d, "b")
	isGone(t, d, "a")
	answers(t, "Remove again", d.Remove("a"), api.ErrNone)
	// The same name again: nothing of what it was is left, that it was synced neither.
	answers(t, "Append", d.Append("a", sectors("x")), api.OK)
	holds(t, d, "a", sectors("x"))
	holds(t, d, "b", sectors("c"))
	names(t, d, "a", "b")
	counted(t, d, 5)
	lost(t, d, "b")
	holds(t, d, "a", sectors("-"))
}

func TestNamesAreForGood(t *testing.T) { // P9.1
	d := made(t, 9)
	for _, name := range []string{"a", "b", "c"} {
		answers(t, "Append", d.Append(name, nil), api.OK)
	}
	answers(t, "Remove", d.Remove("a"), api.OK)
	answers(t, "Rename", d.Rename("b", "d"), api.OK)
	answers(t, "Arm", d.Arm(1), api.OK)
	answers(t, "Append", d.Append("e", nil), api.ErrDown)
	answers(t, "Restart", d.Restart(disk.Fate{}), api.OK)
	names(t, d, "c", "d", "e")
	holds(t, d, "e", nil)
}

func TestNamesInOrder(t *testing.T) { // P9.2
	d := made(t, 9)
	names(t, d)
	for _, name := range []string{"b", "ab", "z", "a", "10", "9", "aa", "a0", "0", "zz", "abcdefghij012345"} {
		answers(t, "Append", d.Append(name, nil), api.OK)
	}
	names(t, d, "0", "10", "9", "a", "a0", "aa", "ab", "abcdefghij012345", "b", "z", "zz")
}

// wrongNames: of none, of too many characters, and with each byte that is none of a to z, 0 to 9.
func wrongNames() []string {
	out := []string{"", strings.Repeat("a", api.MaxName+1), strings.Repeat("a", 100), "é", "\xff\xfe", strings.Repeat("0", 1000)}
	for b := range 256 {
		c := byte(b)
		if c >= 'a' && c <= 'z' || c >= '0' && c <= '9' {
			continue
		}
		one := string([]byte{c})
		out = append(out, one, "a"+one, one+"a", "ab"+one+"cd", strings.Repeat("a", api.MaxName-1)+one)
	}
	return out
}

func TestWrongNames(t *testing.T) { // P9.1, P9.2
	d := made(t, 9)
	answers(t, "Append", d.Append("a", sectors("x")), api.OK)
	for _, name := range wrongNames() {
		answers(t, "Append", d.Append(name, nil), api.ErrArg)
		answers(t, "Append", d.Append(name, sectors("x")), api.ErrArg)
		answers(t, "Sync", d.Sync(name), api.ErrArg)
		answers(t, "Truncate", d.Truncate(name, 0), api.ErrArg)
		answers(t, "Rename of", d.Rename(name, "b"), api.ErrArg)
		answers(t, "Rename to", d.Rename("a", name), api.ErrArg)
		answers(t, "Rename onto itself", d.Rename(name, name), api.ErrArg)
		answers(t, "Remove", d.Remove(name), api.ErrArg)
		if p, e := d.Read(name); len(p) != 0 || e != api.ErrArg {
			t.Fatalf("Read(%q) = %q, %d, want ErrArg", name, p, e)
		}
		if n, e := d.Size(name); n != 0 || e != api.ErrArg {
			t.Fatalf("Size(%q) = %d, %d, want ErrArg", name, n, e)
		}
	}
	names(t, d, "a")
	holds(t, d, "a", sectors("x"))
	counted(t, d, 1)
}

func TestRightNames(t *testing.T) { // P9.1, P9.2
	var all []string
	for _, c := range "abcdefghijklmnopqrstuvwxyz0123456789" {
		all = append(all, string(c), strings.Repeat(string(c), api.MaxName))
	}
	for _, name := range append(all, "az09", "0a", "abcdefghijklmnop") {
		d := made(t, 9)
		answers(t, "Append", d.Append(name, sectors("x")), api.OK)
		holds(t, d, name, sectors("x"))
		names(t, d, name)
		answers(t, "Sync", d.Sync(name), api.OK)
		answers(t, "Truncate", d.Truncate(name, 1), api.OK)
		answers(t, "Rename", d.Rename(name, "another"), api.OK)
		answers(t, "Rename", d.Rename("another", name), api.OK)
		answers(t, "Remove", d.Remove(name), api.OK)
		names(t, d)
	}
}
