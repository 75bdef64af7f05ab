package snap_test

import (
	"encoding/hex"
	"math/rand"
	"slices"
	"strings"
	"testing"

	"passbook/api"
	"passbook/disk"
	"passbook/snap"
)

const most = 400000 // bytes of a payload

func TestExamples(t *testing.T) { // P11.1, P11.2
	d := diskOf(t, nil)
	loadsNone(t, "a new disk", d, api.ErrNone)
	answers(t, "Write(5)", snap.Write(d, 5, []byte("a")), api.OK)
	loads(t, "one", d, 5, "a")
	looksLike(t, "one", d, image{"s000000000005": written("a")})
	answers(t, "Write(7)", snap.Write(d, 7, []byte("b")), api.OK)
	loads(t, "two", d, 7, "b")
	lists(t, "two", d, 5, 7)
	answers(t, "Clean", snap.Clean(d), api.OK)
	looksLike(t, "cleaned", d, image{"s000000000007": written("b")})
	// The power goes at Write's Sync, not done, all sectors lost.
	answers(t, "Arm", d.Arm(2), api.OK)
	answers(t, "Write(9)", snap.Write(d, 9, []byte("c")), api.ErrDown)
	answers(t, "Restart", d.Restart(disk.Fate{}), api.OK)
	loads(t, "the elder one", d, 7, "b")
	looksLike(t, "torn", d, image{"s000000000007": written("b"), "t": strings.Repeat("\x00", 32)})
	answers(t, "Write(9)", snap.Write(d, 9, []byte("c")), api.OK)
	looksLike(t, "again", d, image{"s000000000007": written("b"), "s000000000009": written("c")})
	answers(t, "Write(-1)", snap.Write(d, -1, []byte("c")), api.ErrArg)
	answers(t, "Write of none", snap.Write(d, 1, nil), api.ErrForm)
}

// TestBytesOfAFile: as they were worked out by other means than this program's.
func TestBytesOfAFile(t *testing.T) { // P11.1
	for payload, text := range map[string]string{
		"a":                     "b205000000010000 61e8b7be4300000000000000000000000000000000000000",
		strings.Repeat("a", 21): "b218000000020000 616161616161616161616161616161616161616161944d3e b201000100020000 7f0000000000000000000000000000000000000000000000",
	} {
		want, err := hex.DecodeString(strings.ReplaceAll(text, " ", ""))
		if err != nil {
			t.Fatal(err)
		}
		d := diskOf(t, nil)
		answers(t, "Write", snap.Write(d, 1, []byte(payload)), api.OK)
		looksLike(t, "a file", d, image{name(1): string(want)})
	}
}

func TestPayloadsOfAllLengths(t *testing.T) { // P11.1, P11.2
	var lengths []int
	for n := 1; n <= 150; n++ {
		lengths = append(lengths, n)
	}
	// 256 and 257 parts, where the part's number has a second byte; and the most.
	lengths = append(lengths, 24*255-4, 24*255-3, 24*256-4, 24*256-3, 24*257-4, 100000, most-30, most-1, most)
	for _, n := range lengths {
		p := make([]byte, n)
		rand.New(rand.NewSource(int64(n))).Read(p)
		d := diskOf(t, nil)
		answers(t, "Write", snap.Write(d, int64(n), p), api.OK)
		looksLike(t, "all lengths", d, image{name(int64(n)): written(string(p))})
		loads(t, "all lengths", d, int64(n), string(p))
		if size, _ := d.Size(name(int64(n))); size != (n+4+23)/24 {
			t.Fatalf("%d bytes have %d sectors", n, size)
		}
	}
	for _, letter := range []string{"\x00", "\xff", "\xb2"} {
		for n := 1; n <= 60; n++ {
			p := strings.Repeat(letter, n)
			d := diskOf(t, nil)
			answers(t, "Write", snap.Write(d, 3, []byte(p)), api.OK)
			looksLike(t, "one letter", d, image{name(3): written(p)})
			loads(t, "one letter", d, 3, p)
		}
	}
}

func TestNumbers(t *testing.T) { // P11.1, P11.2
	d := diskOf(t, nil)
	var all []int64
	for _, n := range []int64{0, 1, 9, 10, 12345, 4294967296, 99999999999, 100000000000, 999999999998, 999999999999} {
		answers(t, "Write", snap.Write(d, n, []byte{byte(len(all) + 1)}), api.OK)
		all = append(all, n)
		loads(t, "numbers", d, n, string([]byte{byte(len(all))}))
		lists(t, "numbers", d, all...)
		if names := d.Names(); names[len(names)-1] != name(n) {
			t.Fatalf("Write(%d): Names = %q", n, names)
		}
	}
	for _, n := range []int64{-1, -2, 1000000000000, 1000000000001, -1 << 63, 1<<63 - 1, 1<<40 + 5} {
		before, ops := imageOf(t, d), d.Ops()
		answers(t, "Write of a wrong number", snap.Write(d, n, []byte("x")), api.ErrArg)
		if looksLike(t, "a wrong number", d, before); d.Ops() != ops {
			t.Fatalf("Write(%d) does operations", n)
		}
	}
}

func TestLoadAnswersTheGreatest(t *testing.T) { // P11.2
	order := []int64{7, 3, 9, 1, 8, 0, 10}
	d := diskOf(t, nil)
	for i, n := range order {
		answers(t, "Write", snap.Write(d, n, []byte(name(n))), api.OK)
		greatest := slices.Max(order[:i+1])
		loads(t, "not in order", d, greatest, name(greatest))
		lists(t, "not in order", d, slices.Sorted(slices.Values(order[:i+1]))...)
	}
}

func TestWriteOverTheSameNumber(t *testing.T) { // P11.1
	d := diskOf(t, nil)
	for _, p := range []string{"first", strings.Repeat("second", 50), "x"} {
		ops := d.Ops()
		answers(t, "Write", snap.Write(d, 4, []byte(p)), api.OK)
		looksLike(t, "written over", d, image{name(4): written(p)})
		loads(t, "written over", d, 4, p)
		if d.Ops() != ops+3 {
			t.Fatalf("Write does %d operations", d.Ops()-ops)
		}
	}
}

// TestATIsThereAlready: it is removed ahead of all else, be it a whole snapshot or not.
func TestATIsThereAlready(t *testing.T) { // P11.1
	for _, old := range []string{"", strings.Repeat("\x00", 32), written("old"), strings.Repeat("z", 320)} {
		d := diskOf(t, image{"t": old, name(2): written("two")})
		loads(t, "a t", d, 2, "two")
		lists(t, "a t", d, 2)
		ops := d.Ops()
		answers(t, "Write", snap.Write(d, 3, []byte("three")), api.OK)
		looksLike(t, "a t", d, image{name(2): written("two"), name(3): written("three")})
		if d.Ops() != ops+4 {
			t.Fatalf("Write with a t does %d operations", d.Ops()-ops)
		}
	}
}

func TestWriteErrors(t *testing.T) { // P11.1
	full, _ := disk.New(1)
	down := diskOf(t, image{name(1): written("one")})
	off(t, down)
	for what, d := range map[string]*disk.Disk{"a disk": diskOf(t, image{"t": "x"}), "nil": nil, "a full one": full, "one that is off": down} {
		ops := d.Ops()
		for _, c := range []struct {
			n    int64
			size int
			want api.Errno
		}{
			{-1, 0, api.ErrArg}, {-1, 1, api.ErrArg}, {-1, most + 1, api.ErrArg}, {1000000000000, most + 1, api.ErrArg}, {1000000000000, 0, api.ErrArg},
			{0, most + 1, api.ErrLong}, {5, most + 2, api.ErrLong}, {999999999999, 2 * most, api.ErrLong},
			{0, 0, api.ErrForm}, {999999999999, 0, api.ErrForm},
		} {
			answers(t, what+": Write", snap.Write(d, c.n, make([]byte, c.size)), c.want)
		}
		answers(t, what+": Write of nil", snap.Write(d, 1, nil), api.ErrForm)
		if d.Ops() != ops {
			t.Fatalf("%s: what is refused does operations", what)
		}
	}
	answers(t, "Write to nil", snap.Write(nil, 1, []byte("x")), api.ErrNone)
	answers(t, "Write of the most to nil", snap.Write(nil, 1, make([]byte, most)), api.ErrNone)
	answers(t, "Write with the power off", snap.Write(down, 2, []byte("x")), api.ErrDown)
	answers(t, "Restart", down.Restart(disk.Fate{}), api.OK)
	looksLike(t, "on again", down, image{name(1): written("one"), "other": ""})
}

func TestNoMoreRoom(t *testing.T) { // P11.1
	for room := 2; room <= 8; room++ {
		d, _ := disk.New(room)
		answers(t, "Write", snap.Write(d, 1, []byte("elder")), api.OK)
		answers(t, "Write of too much", snap.Write(d, 2, make([]byte, 24*room-4)), api.ErrFull)
		looksLike(t, "no more room", d, image{name(1): written("elder")})
		loads(t, "no more room", d, 1, "elder")
		// A t is removed all the same; and its room is there for the new one.
		answers(t, "Append", d.Append("t", make([]byte, 32*(room-1))), api.OK)
		answers(t, "Write of too much", snap.Write(d, 2, make([]byte, 24*room-4)), api.ErrFull)
		looksLike(t, "no more room", d, image{name(1): written("elder")})
		answers(t, "Append", d.Append("t", make([]byte, 32*(room-1))), api.OK)
		p := strings.Repeat("x", 24*(room-1)-4)
		answers(t, "Write of what has room", snap.Write(d, 2, []byte(p)), api.OK)
		looksLike(t, "just room", d, image{name(1): written("elder"), name(2): written(p)})
		loads(t, "just room", d, 2, p)
	}
}

func TestNoMoreFiles(t *testing.T) { // P11.1
	d := diskOf(t, nil)
	for n := range int64(api.MaxFiles) {
		answers(t, "Write", snap.Write(d, n, []byte("x")), api.OK)
	}
	answers(t, "Write of one more", snap.Write(d, 100, []byte("x")), api.ErrFull)
	answers(t, "Write over one", snap.Write(d, 5, []byte("x")), api.ErrFull) // for a time t is one more
	loads(t, "all files", d, api.MaxFiles-1, "x")
	answers(t, "Clean", snap.Clean(d), api.OK)
	lists(t, "cleaned", d, api.MaxFiles-1)
	answers(t, "Write behind Clean", snap.Write(d, 100, []byte("x")), api.OK)
}

func TestWhatIsHandedInIsLeftAndNotKept(t *testing.T) { // P11.1, and the rules of memory
	for _, size := range []int{1, 20, 21, 100, 100000} {
		for _, room := range []int{0, 1, 4, 100} {
			whole := []byte(strings.Repeat("x", size+room))
			d := diskOf(t, nil)
			answers(t, "Write", snap.Write(d, 1, whole[:size]), api.OK)
			if string(whole) != strings.Repeat("x", size+room) {
				t.Fatalf("Write of %d bytes has changed them, or the room behind them", size)
			}
			clear(whole)
			loads(t, "written over", d, 1, strings.Repeat("x", size))
		}
	}
}

func TestAnswersAreNewMemory(t *testing.T) { // P11.2, and the rules of memory
	d := diskOf(t, image{name(1): written("one"), name(2): written(strings.Repeat("two", 100))})
	_, first, _ := snap.Load(d)
	list := snap.List(d)
	for range 2 {
		_, p, _ := snap.Load(d)
		p = p[:cap(p)]
		for i := range p {
			p[i] = '!'
		}
		other := snap.List(d)
		clear(other[:cap(other)])
	}
	answers(t, "Write", snap.Write(d, 3, []byte("three")), api.OK)
	answers(t, "Clean", snap.Clean(d), api.OK)
	if string(first) != strings.Repeat("two", 100) || !slices.Equal(list, []int64{1, 2}) {
		t.Fatalf("an earlier answer has changed: %q, %d", first, list)
	}
	loads(t, "written over", d, 3, "three")
}
