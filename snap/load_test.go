package snap_test

import (
	"math/rand"
	"slices"
	"strings"
	"testing"

	"passbook/api"
	"passbook/disk"
	"passbook/snap"
)

// unwhole: files that are not whole, by what is wrong with them.
func unwhole() map[string]string {
	one, two := written("a"), written(strings.Repeat("b", 30))
	noughts := strings.Repeat("\x00", 32)
	three := written(strings.Repeat("c", 60))
	most1 := strings.Repeat("d", most+1)
	return map[string]string{
		"empty":                         "",
		"noughts":                       noughts,
		"many noughts":                  strings.Repeat(noughts, 10),
		"ff":                            strings.Repeat("\xff", 32),
		"a sector too many":             one + noughts,
		"twice":                         one + one,
		"two snapshots":                 one + two,
		"the first part alone":          two[:32],
		"the last part alone":           two[32:],
		"the parts the other way round": two[32:] + two[:32],
		"the first part twice":          two[:32] + two[:32],
		"the first part lost":           noughts + two[32:],
		"the last part lost":            two[:32] + noughts,
		"the middle part lost":          three[:32] + noughts + three[64:],
		"the middle part gone":          three[:32] + three[64:],
		"a sector ahead":                noughts + one,
		"a wrong sum":                   sectorsOf("x" + bodyOf("y")[1:]),
		"a sum the other way round":     sectorsOf("a\x43\xbe\xb7\xe8"),
		"no payload":                    sectorsOf(bodyOf("")),
		"three bytes":                   sectorsOf("abc"),
		"one byte":                      sectorsOf("a"),
		"one byte more than the most":   written(most1),
		"many more than the most":       written(strings.Repeat("d", 24*30000-4)),
		"the log's mark":                turned(one, 0, 0xb1^0xb2),
		"a part of no bytes":            turned(two, 5, 2^3)[:32] + turned(two, 5, 2^3)[32:64] + "\xb2\x00\x00\x02\x00\x03\x00\x00" + strings.Repeat("\x00", 24),
		"a short part ahead of others":  shortParts(bodyOf(strings.Repeat("b", 30))),
	}
}

// shortParts: the body in three parts, of which the first has fewer than 24 bytes.
func shortParts(body string) string {
	out := ""
	for part, piece := range []string{body[:10], body[10:34], body[34:]} {
		head := []byte{0xb2, byte(len(piece)), 0, byte(part), 0, 3, 0, 0}
		out += string(head) + piece + strings.Repeat("\x00", 24-len(piece))
	}
	return out
}

func TestFilesThatAreNotWhole(t *testing.T) { // P11.2
	for what, text := range unwhole() {
		d := diskOf(t, image{name(5): text})
		loadsNone(t, what, d, api.ErrNone)
		lists(t, what, d, 5)
		// The greatest whole one is found beneath it.
		d = diskOf(t, image{name(2): written("two"), name(4): written("four"), name(5): text, name(6): text})
		ops := d.Ops()
		loads(t, what, d, 4, "four")
		lists(t, what, d, 2, 4, 5, 6)
		if d.Ops() != ops {
			t.Fatalf("%s: what only looks does operations", what)
		}
	}
}

// TestFilesThatFillTheDisk: of so many sectors that their count has no room in two bytes, or just has.
func TestFilesThatFillTheDisk(t *testing.T) { // P11.2
	for _, count := range []int{api.MaxSectors - 1, api.MaxSectors} {
		d := diskOf(t, image{name(5): written(strings.Repeat("d", 24*count-4))})
		loadsNone(t, "a full disk", d, api.ErrNone)
		answers(t, "Clean", snap.Clean(d), api.OK)
		lists(t, "a full disk", d, 5)
	}
}

func TestAWrongByteAtEachPlace(t *testing.T) { // P11.2
	elder := written("elder")
	for _, p := range []string{"a", strings.Repeat("b", 20), strings.Repeat("c", 21), strings.Repeat("d", 44)} {
		whole := written(p)
		d := diskOf(t, image{name(1): elder})
		check := func(place int, by byte) {
			answers(t, "Append", d.Append(name(2), []byte(turned(whole, place, by))), api.OK)
			loads(t, "a wrong byte", d, 1, "elder")
			answers(t, "Remove", d.Remove(name(2)), api.OK)
		}
		for place := range whole {
			for by := 1; by < 256; by++ {
				check(place, byte(by))
			}
		}
		answers(t, "Append", d.Append(name(2), []byte(whole)), api.OK)
		loads(t, "no wrong byte", d, 2, p)
	}
}

// TestAWrongByteOfALongOne: where parts' numbers need their second byte.
func TestAWrongByteOfALongOne(t *testing.T) { // P11.2
	p := strings.Repeat("long", 2000)
	whole := written(p)
	c := rand.New(rand.NewSource(1))
	for range 300 {
		place := c.Intn(len(whole)/32)*32 + c.Intn(8)
		if c.Intn(3) == 0 {
			place = c.Intn(len(whole))
		}
		d := diskOf(t, image{name(2): turned(whole, place, byte(1+c.Intn(255)))})
		loadsNone(t, "a wrong byte", d, api.ErrNone)
	}
	loads(t, "no wrong byte", diskOf(t, image{name(2): whole}), 2, p)
}

// others: names that are none of a snapshot's.
func others() image {
	out := image{}
	for _, name := range []string{"s", "s1", "s00000000001", "s0000000000001", "s00000000000a", "sa00000000000", "l000000000001", "l00000000", "t", "t000000000001", "0000000000001", "000000000001", "ss00000000001", "r000000000001", "zs00000000001", "s000000000001z"} {
		out[name] = written("other")
	}
	return out
}

func TestOtherNames(t *testing.T) { // P11.2
	d := diskOf(t, others())
	loadsNone(t, "other names", d, api.ErrNone)
	lists(t, "other names", d)
	answers(t, "Clean", snap.Clean(d), api.OK)
	looksLike(t, "other names", d, others())
	d = diskOf(t, others().with(name(0), written("a"), name(1), written("b")))
	loads(t, "other names", d, 1, "b")
	lists(t, "other names", d, 0, 1)
	answers(t, "Clean", snap.Clean(d), api.OK)
	looksLike(t, "other names", d, others().with(name(1), written("b")))
}

func TestClean(t *testing.T) { // P11.2
	wrong := strings.Repeat("x", 32)
	for _, c := range []struct {
		what        string
		files, left image
		ops         int
	}{
		{"none", image{}, image{}, 0},
		{"one whole", image{name(3): written("a")}, image{name(3): written("a")}, 0},
		{"two whole", image{name(3): written("a"), name(8): written("b")}, image{name(8): written("b")}, 1},
		{"one that is not whole", image{name(3): wrong}, image{name(3): wrong}, 0},
		{"none whole", image{name(0): wrong, name(3): "", name(999999999999): wrong}, image{name(0): wrong, name(3): "", name(999999999999): wrong}, 0},
		{"the greatest not whole", image{name(1): written("a"), name(2): written("b"), name(3): wrong, name(4): ""}, image{name(2): written("b")}, 3},
		{"the least alone whole", image{name(0): written("a"), name(2): wrong, name(3): wrong}, image{name(0): written("a")}, 2},
		{"a t", image{name(0): written("a"), name(2): written("b"), "t": wrong}, image{name(2): written("b"), "t": wrong}, 1},
	} {
		d := diskOf(t, c.files)
		ops := d.Ops()
		for range 2 { // the second one has nothing to do
			answers(t, c.what+": Clean", snap.Clean(d), api.OK)
			looksLike(t, c.what, d, c.left)
			if d.Ops() != ops+c.ops {
				t.Fatalf("%s: Clean does %d operations, want %d", c.what, d.Ops()-ops, c.ops)
			}
		}
	}
}

func TestNilDisk(t *testing.T) { // P11.1, P11.2
	loadsNone(t, "nil", nil, api.ErrNone)
	lists(t, "nil", nil)
	answers(t, "Clean", snap.Clean(nil), api.ErrNone)
	answers(t, "Write", snap.Write(nil, 0, []byte("x")), api.ErrNone)
}

func TestPowerOff(t *testing.T) { // P11.1, P11.2
	for what, files := range map[string]image{
		"whole":     {name(1): written("a"), name(2): written("b")},
		"not whole": {name(1): "x"},
		"none":      {},
		"a t":       {name(1): written("a"), "t": written("b")},
	} {
		d := diskOf(t, files)
		before := imageOf(t, d)
		off(t, d)
		ops := d.Ops()
		loadsNone(t, what, d, api.ErrDown)
		lists(t, what, d)
		answers(t, what+": Clean", snap.Clean(d), api.ErrDown)
		answers(t, what+": Write", snap.Write(d, 3, []byte("x")), api.ErrDown)
		if d.On() || d.Ops() != ops {
			t.Fatalf("%s: On = %t, Ops = %d, want %d", what, d.On(), d.Ops(), ops)
		}
		answers(t, "Restart", d.Restart(disk.Fate{Done: true}), api.OK)
		looksLike(t, what, d, before.with("other", ""))
	}
	// With no room the disk says so, though it is off; but where there is a t, that would have to go first.
	for _, there := range []bool{false, true} {
		d, _ := disk.New(1)
		want := api.ErrFull
		if there {
			answers(t, "Append", d.Append("t", nil), api.OK)
			want = api.ErrDown
		}
		off(t, d)
		answers(t, "Write of too much, with the power off", snap.Write(d, 3, make([]byte, 100)), want)
	}
}

// TestPowerGoesAtWrite: at each of its operations, done and not done, with every way of keeping sectors, with a t and without.
func TestPowerGoesAtWrite(t *testing.T) { // P11.1, P11.3
	p := strings.Repeat("new", 20) // three sectors
	elder := image{name(4): written("elder"), name(6): "x", name(7): written("newest")}
	for what, files := range map[string]image{"none": {}, "elder ones": elder, "a t": elder.with("t", written("torn"))} {
		at := 1
		for ; crashAtWrite(t, what, files, p, at); at++ {
		}
		want := 3
		if _, there := files["t"]; there {
			want = 4
		}
		if at != want+1 {
			t.Fatalf("%s: Write does %d operations, want %d", what, at-1, want)
		}
	}
}

// crashAtWrite tells whether the power went.
func crashAtWrite(t *testing.T, what string, files image, p string, at int) bool {
	for mask := range 1 << 4 {
		d := diskOf(t, files)
		before := imageOf(t, d)
		keep := []bool{mask&1 > 0, mask&2 > 0, mask&4 > 0}
		done := mask&8 > 0
		answers(t, "Arm", d.Arm(at), api.OK)
		if e := snap.Write(d, 8, []byte(p)); e == api.OK {
			return false
		} else if e != api.ErrDown {
			t.Fatalf("%s: Write answers %d", what, e)
		}
		answers(t, "Restart", d.Restart(disk.Fate{Done: done, Keep: keep}), api.OK)
		looksLike(t, what, d, leftBehind(before, p, at, done, keep))
		switch _, there := imageOf(t, d)[name(8)]; {
		case there:
			loads(t, what, d, 8, p)
		case len(files) > 0:
			loads(t, what, d, 7, "newest")
		default:
			loadsNone(t, what, d, api.ErrNone)
		}
		// The next Write has its way.
		answers(t, "Write", snap.Write(d, 9, []byte("next")), api.OK)
		loads(t, what, d, 9, "next")
		if slices.Contains(d.Names(), "t") {
			t.Fatalf("%s: the files are %q", what, d.Names())
		}
		answers(t, "Clean", snap.Clean(d), api.OK)
		looksLike(t, what, d, image{name(9): written("next")})
	}
	return true
}

// leftBehind: the files when the power went at Write's operation.
func leftBehind(files image, p string, at int, done bool, keep []bool) image {
	if _, there := files["t"]; there {
		if at == 1 && !done {
			return files
		}
		files = files.without("t")
		at--
	}
	whole := written(p)
	switch {
	case at == 0:
		return files
	case at == 3 && done:
		return files.with(name(8), whole)
	case at == 3 || at == 2 && done:
		return files.with("t", whole)
	}
	left := ""
	for i, kept := range keep {
		if kept {
			left += whole[32*i : 32*i+32]
		} else {
			left += strings.Repeat("\x00", 32)
		}
	}
	return files.with("t", left)
}

// TestPowerGoesAtClean: the least number goes first, and what Load finds is there at all times.
func TestPowerGoesAtClean(t *testing.T) { // P11.2
	files := diskOf(t, image{name(2): written("a"), name(10): written("b"), name(11): written("c"), name(12): "x", name(13): ""})
	whole := imageOf(t, files)
	gone := []string{name(2), name(10), name(12), name(13)}
	for at := 1; at <= 4; at++ {
		for _, done := range []bool{false, true} {
			d := diskOf(t, whole)
			answers(t, "Arm", d.Arm(at), api.OK)
			answers(t, "Clean", snap.Clean(d), api.ErrDown)
			answers(t, "Restart", d.Restart(disk.Fate{Done: done}), api.OK)
			count := at - 1
			if done {
				count = at
			}
			looksLike(t, "cleaned in part", d, whole.without(gone[:count]...))
			loads(t, "cleaned in part", d, 11, "c")
			answers(t, "Clean", snap.Clean(d), api.OK)
			looksLike(t, "cleaned", d, image{name(11): written("c")})
		}
	}
}

// TestPowerGoesAnywhere: at each operation of many Writes and Cleans, with all, none or some sectors kept.
func TestPowerGoesAnywhere(t *testing.T) { // P11.3
	for at := 1; ; at++ {
		for mask := range 1 << 4 {
			d := diskOf(t, nil)
			answers(t, "Arm", d.Arm(at), api.OK)
			last := int64(0) // acknowledged
			for n := int64(1); n <= 6 && d.On(); n++ {
				if snap.Write(d, n, []byte(strings.Repeat(name(n), 3))) == api.OK {
					last = n
				}
				if n%2 == 0 {
					snap.Clean(d)
				}
			}
			if d.On() {
				if at < 20 {
					t.Fatalf("all that has only %d operations", at-1)
				}
				return
			}
			answers(t, "Restart", d.Restart(disk.Fate{Done: mask&8 > 0, Keep: []bool{mask&1 > 0, mask&2 > 0, mask&4 > 0}}), api.OK)
			n, p, e := snap.Load(d)
			if last == 0 && e == api.ErrNone && n == 0 && len(p) == 0 {
				continue
			}
			if e != api.OK || n != last && n != last+1 || string(p) != strings.Repeat(name(n), 3) {
				t.Fatalf("at operation %d: Load = %d, %q, error %d, acknowledged was %d", at, n, p, e, last)
			}
		}
	}
}
