package log_test

import (
	"encoding/binary"
	"hash/crc32"
	"strings"
	"testing"

	"passbook/api"
	"passbook/disk"
	"passbook/log"
)

func TestPer(t *testing.T) { // P10.1
	for _, per := range []int{0, -1, 1001, 1002, -1 << 63, 1<<63 - 1, 1<<32 + 1} {
		d := diskOf(t, fresh(2, some(3)).with("l00000007", "x"))
		before, ops := imageOf(t, d), d.Ops()
		if l, p, e := log.Open(d, per); l != nil || len(p) != 0 || e != api.ErrArg {
			t.Errorf("Open(d, %d) answers %v, %q, error %d", per, l, p, e)
		}
		if looksLike(t, "refused", d, before); d.Ops() != ops {
			t.Errorf("Open(d, %d) does operations", per)
		}
	}
	for _, per := range []int{1, 2, 999, 1000} {
		d := diskOf(t, nil)
		numbers(t, "a new disk", opened(t, "a new disk", d, per, nil), 1, 1)
		if d.Ops() != 0 || len(d.Names()) != 0 {
			t.Errorf("Open of a new disk: Ops = %d, Names = %q", d.Ops(), d.Names())
		}
	}
}

// found is what Open is to answer of files that somebody else wrote.
type found struct {
	what        string
	per         int
	files       image
	payloads    []string
	left        image
	ops         int
	first, next int64
	ahead       [32]byte // of the record that is appended then
}

func (c found) check(t *testing.T) {
	t.Helper()
	d := diskOf(t, c.files)
	ops := d.Ops()
	l := opened(t, c.what, d, c.per, c.payloads)
	numbers(t, c.what, l, c.first, c.next)
	looksLike(t, c.what, d, c.left)
	if d.Ops() != ops+c.ops {
		t.Fatalf("%s: Open does %d operations, want %d", c.what, d.Ops()-ops, c.ops)
	}
	// Once more there is nothing to be done away with, and the log goes on.
	ops = d.Ops()
	l = opened(t, c.what+", again", d, c.per, c.payloads)
	numbers(t, c.what+", again", l, c.first, c.next)
	if d.Ops() != ops {
		t.Fatalf("%s: Open again does %d operations", c.what, d.Ops()-ops)
	}
	appended(t, c.what, l, "more")
	k := (c.next - 1) / int64(c.per)
	w := &writer{number: c.next, link: c.ahead}
	looksLike(t, c.what+", with one more", d, c.left.with(segment(k), c.left[segment(k)]+w.record("more")))
	opened(t, c.what+", with one more", d, c.per, append(append([]string{}, c.payloads...), "more"))
}

// linkOf: the link of the last of the records 1 and so on.
func linkOf(payloads []string) [32]byte {
	w := &writer{number: 1}
	for _, p := range payloads {
		w.body(p)
	}
	return w.link
}

func TestFilesThatSomebodyElseWrote(t *testing.T) { // P10.1, P10.2
	all := some(9)
	whole := fresh(3, all) // three segments, full
	link := func(count int) [32]byte { return linkOf(all[:count]) }
	late := written(3, 7, [32]byte{1, 2, 3}, all) // the segments 7 to 9: records 22 to 30
	lateLink := func(count int) [32]byte {
		w := &writer{link: [32]byte{1, 2, 3}}
		for _, p := range all[:count] {
			w.body(p)
		}
		return w.link
	}
	three := whole[segment(0)]
	short := fresh(3, all[:8])[segment(2)]
	for _, c := range []found{
		{"whole", 3, whole, all, whole, 0, 1, 10, link(9)},
		{"no files", 3, image{}, nil, image{}, 0, 1, 1, [32]byte{}},
		{"an empty file", 3, image{segment(0): ""}, nil, image{segment(0): ""}, 0, 1, 1, [32]byte{}},
		{"an empty file, a later one", 3, image{segment(5): ""}, nil, image{segment(5): ""}, 0, 16, 16, [32]byte{}},
		{"two empty files", 3, image{segment(5): "", segment(6): ""}, nil, image{segment(5): ""}, 1, 16, 16, [32]byte{}},
		{"an empty file ahead of whole ones", 3, whole.with(segment(0), ""), nil, image{segment(0): ""}, 2, 1, 1, [32]byte{}},
		{"an empty file in the midst", 3, whole.with(segment(1), ""), all[:3], whole.with(segment(1), "").without(segment(2)), 1, 1, 4, link(3)},
		{"an empty file behind whole ones", 3, whole.with(segment(3), ""), all, whole.with(segment(3), ""), 0, 1, 10, link(9)},
		{"two empty files behind whole ones", 3, whole.with(segment(3), "", segment(4), ""), all, whole.with(segment(3), ""), 1, 1, 10, link(9)},
		{"the first file missing", 3, whole.without(segment(0)), all[3:], whole.without(segment(0)), 0, 4, 10, link(9)},
		{"a file missing in the midst", 3, whole.without(segment(1)), all[:3], image{segment(0): three}, 1, 1, 4, link(3)},
		{"a gap ahead of several files", 3, whole.without(segment(1)).with(segment(3), "", segment(99999999), "x"), all[:3], image{segment(0): three}, 3, 1, 4, link(3)},
		{"the last file missing", 3, whole.without(segment(2)), all[:6], whole.without(segment(2)), 0, 1, 7, link(6)},
		{"the last file short", 3, whole.with(segment(2), short), all[:8], whole.with(segment(2), short), 0, 1, 9, link(8)},
		{"a file in the midst short", 3, whole.with(segment(1), fresh(3, all[:5])[segment(1)]), all[:5], fresh(3, all[:5]), 1, 1, 6, link(5)},
		{"the first file short", 3, whole.with(segment(0), fresh(3, all[:1])[segment(0)]), all[:1], fresh(3, all[:1]), 2, 1, 2, link(1)},
		{"late segments", 3, late, all, late, 0, 22, 31, lateLink(9)},
		{"late segments, one missing", 3, late.without(segment(8)), all[:3], late.without(segment(8), segment(9)), 1, 22, 25, lateLink(3)},
		{"an early segment ahead of late ones", 3, late.with(segment(2), short), all[6:8], image{segment(2): short}, 3, 7, 9, link(8)},
		{"a sector of noughts behind the last one", 3, whole.with(segment(2), whole[segment(2)]+strings.Repeat("\x00", 32)), all, whole, 1, 1, 10, link(9)},
		{"a sector of noughts in the midst", 3, whole.with(segment(1), whole[segment(1)]+strings.Repeat("\x00", 32)), all[:6], fresh(3, all[:6]), 2, 1, 7, link(6)},
		{"sectors of noughts alone", 3, image{segment(0): strings.Repeat("\x00", 320)}, nil, image{segment(0): ""}, 1, 1, 1, [32]byte{}},
		{"sectors of noughts alone, in a late file", 3, image{segment(4): strings.Repeat("\x00", 320)}, nil, image{segment(4): ""}, 1, 13, 13, [32]byte{}},
		{"the next segment's records beyond its last one", 3, image{segment(0): fresh(9, all)[segment(0)]}, all[:3], image{segment(0): three}, 1, 1, 4, link(3)},
		{"the next segment's records, and that segment", 3, whole.with(segment(0), three+whole[segment(1)]), all[:3], image{segment(0): three}, 3, 1, 4, link(3)},
		{"its own records once more", 3, image{segment(0): three + three}, all[:3], image{segment(0): three}, 1, 1, 4, link(3)},
		{"a record twice", 3, image{segment(0): fresh(3, all[:1])[segment(0)] + three}, all[:1], fresh(3, all[:1]), 1, 1, 2, link(1)},
		{"another segment's file", 3, image{segment(1): three}, nil, image{segment(1): ""}, 1, 4, 4, [32]byte{}},
		{"two files in each other's place", 3, image{segment(0): three, segment(1): whole[segment(2)], segment(2): whole[segment(1)]}, all[:3], image{segment(0): three, segment(1): ""}, 2, 1, 4, link(3)},
		{"per was less", 4, whole, all[:3], image{segment(0): three}, 2, 1, 4, link(3)},
		{"per was more", 2, whole, all[:2], fresh(2, all[:2]), 3, 1, 3, link(2)},
		{"per was 1000", 1, fresh(1000, all), all[:1], fresh(1, all[:1]), 1, 1, 2, link(1)},
	} {
		t.Run(c.what, c.check)
	}
}

func TestOtherNames(t *testing.T) { // P10.1
	all := some(4)
	others := image{}
	for _, name := range []string{"l", "l0", "l0000000", "l0000000a", "l000000000", "m00000000", "s00000000", "s000000000001", "t", "00000000", "000000000", "ll00000000", "l0000000l", "la0000000", "l000000020", "k00000000", "zl00000000", "l00000000z"} {
		others[name] = strings.Repeat(name+"!", 20)
	}
	for name, text := range others {
		others[name] = text + strings.Repeat("\x00", (32-len(text)%32)%32)
	}
	for what, files := range map[string]image{"with no log": {}, "with a log": fresh(3, all)} {
		d := diskOf(t, others)
		for name, text := range files {
			answers(t, "Append", d.Append(name, []byte(text)), api.OK)
		}
		payloads := all[:len(files)*2]
		l := opened(t, what, d, 3, payloads)
		numbers(t, what, l, 1, int64(len(payloads)+1))
		appended(t, what, l, "x", "y", "z", "v")
		payloads = append(append([]string{}, payloads...), "x", "y", "z", "v")
		answers(t, "Prune", l.Prune(4), api.OK)
		want := fresh(3, payloads).without(segment(0))
		for name, text := range others {
			want[name] = text
		}
		looksLike(t, what, d, want)
		opened(t, what, d, 3, payloads[3:])
	}
}

// broken: the third of six records is this instead; the first two alone are answered, and the file is cut behind them.
func broken(t *testing.T, what, instead string) {
	t.Helper()
	all := []string{"first", "second", "third", "fourth", "fifth", "sixth"}
	whole := fresh(4, all)
	ahead := fresh(4, all[:2])[segment(0)]
	third := fresh(4, all[:3])[segment(0)][len(ahead):]
	files := whole.with(segment(0), strings.Replace(whole[segment(0)], third, instead, 1))
	d := diskOf(t, files)
	l := opened(t, what, d, 4, all[:2])
	numbers(t, what, l, 1, 3)
	looksLike(t, what, d, image{segment(0): ahead})
}

func thirdLink() [32]byte { return linkOf([]string{"first", "second"}) }

func TestAWrongByteAtEachPlace(t *testing.T) { // P10.1
	whole := (&writer{number: 3, link: thirdLink()}).record("third")
	if len(whole) != 64 {
		t.Fatalf("the record has %d bytes", len(whole))
	}
	for place := range whole {
		for by := 1; by < 256; by++ {
			broken(t, "a wrong byte", turned(whole, place, byte(by)))
		}
	}
}

func TestAWrongByteInLongRecords(t *testing.T) { // P10.1
	for _, size := range []int{12, 13, 36, 200, api.MaxBytes} {
		w := &writer{number: 3, link: thirdLink()}
		whole := w.record(strings.Repeat("x", size))
		for place := range whole {
			if size < 300 || place%32 < 9 && place%640 < 64 || place > len(whole)-64 {
				broken(t, "a wrong byte", turned(whole, place, byte(1+place%255)))
			}
		}
	}
}

func TestRecordsThatAreNotJustSo(t *testing.T) { // P10.1
	sum := func(p string) string {
		return string(binary.BigEndian.AppendUint32(nil, crc32.ChecksumIEEE([]byte(p))))
	}
	link := func(ahead [32]byte, p string) string {
		w := &writer{link: ahead}
		w.body(p)
		return string(w.link[:])
	}
	ahead := thirdLink()
	right := "x" + sum("x") + link(ahead, "x")
	sectors := sectorsOf(3, right)
	long := strings.Repeat("y", api.MaxBytes+1)
	longer := strings.Repeat("y", 6084)
	for what, instead := range map[string]string{
		"nothing":                       "",
		"a wrong sum":                   sectorsOf(3, "x"+sum("y")+link(ahead, "x")),
		"a sum the other way round":     sectorsOf(3, "x"+"\x83\x16\xdc\x8c"+link(ahead, "x")),
		"a wrong link":                  sectorsOf(3, "x"+sum("x")+link(ahead, "y")),
		"a link to none":                sectorsOf(3, "x"+sum("x")+link([32]byte{}, "x")),
		"a link to the first":           sectorsOf(3, "x"+sum("x")+link(linkOf([]string{"first"}), "x")),
		"the link ahead":                sectorsOf(3, "x"+sum("x")+string(ahead[:])),
		"a link of noughts":             sectorsOf(3, "x"+sum("x")+strings.Repeat("\x00", 32)),
		"no payload":                    sectorsOf(3, sum("")+link(ahead, "")),
		"a body of one byte":            sectorsOf(3, "x"),
		"a body of 35 bytes":            sectorsOf(3, right[:35]),
		"a payload of one byte more":    sectorsOf(3, long+sum(long)+link(ahead, long)),
		"a payload of many more":        sectorsOf(3, longer+sum(longer)+link(ahead, longer)),
		"the number ahead":              sectorsOf(2, right),
		"the next number":               sectorsOf(4, right),
		"the number 0":                  sectorsOf(0, right),
		"the first part alone":          sectors[:32],
		"the last part alone":           sectors[32:],
		"the parts the other way round": sectors[32:] + sectors[:32],
		"the first part twice":          sectors[:32] + sectors[:32],
		"the last part twice":           sectors[32:] + sectors[32:],
		"a sector between":              sectors[:32] + strings.Repeat("\x00", 32) + sectors[32:],
		"the first part of noughts":     strings.Repeat("\x00", 32) + sectors[32:],
		"the last part of noughts":      sectors[:32] + strings.Repeat("\x00", 32),
		"all noughts":                   strings.Repeat("\x00", 64),
		"all ff":                        strings.Repeat("\xff", 64),
		"a part too many":               turned(turned(sectors, 7, 2^3), 39, 2^3) + "\xb1\x00\x00\x00\x00\x03\x02\x03" + strings.Repeat("\x00", 24),
		"a short part ahead of others":  shortParts(right),
		"all the file's rest":           turned(sectors, 7, 2^255),
	} {
		broken(t, what, instead)
	}
	// And just so it is taken.
	all := []string{"first", "second", "x"}
	opened(t, "just so", diskOf(t, image{segment(0): fresh(4, all[:2])[segment(0)] + sectors}), 4, all)
}

// shortParts: the body in three parts, of which the first has fewer than 24 bytes.
func shortParts(body string) string {
	out := ""
	for part, piece := range []string{body[:12], body[12:36], body[36:]} {
		out += "\xb1" + string([]byte{byte(len(piece)), 0, 0, 0, 3, byte(part), 3}) + piece + strings.Repeat("\x00", 24-len(piece))
	}
	return out
}

// TestTheFirstRecordsLink: any one will do, but for the record 1.
func TestTheFirstRecordsLink(t *testing.T) { // P10.1
	all := some(4)
	for _, ahead := range [][32]byte{{}, {1}, {31: 255}, linkOf(all)} {
		for k := range int64(4) {
			files := written(2, k, ahead, all)
			want := all
			left := files
			if k == 0 && ahead != [32]byte{} {
				want, left = nil, image{segment(0): ""}
			}
			d := diskOf(t, files)
			l := opened(t, "any link", d, 2, want)
			numbers(t, "any link", l, 2*k+1, 2*k+1+int64(len(want)))
			looksLike(t, "any link", d, left)
		}
	}
	// Of a record that stands first with its link changed the next one knows: it hangs on what stands there.
	files := written(2, 3, [32]byte{}, all)
	text := files[segment(3)]
	opened(t, "a changed link", diskOf(t, files.with(segment(3), turned(text, 40, 1))), 2, all[:1])
	// And the record behind an empty first file is not the first that is read: the reading has ended.
	opened(t, "an empty first file", diskOf(t, image{segment(3): "", segment(4): files[segment(4)]}), 2, nil)
}

// TestNumbersAreModulo: beyond 2^32 the sectors tell the number's last four bytes.
func TestNumbersAreModulo(t *testing.T) { // P10.1, P10.2
	all := some(7)
	for _, k := range []int64{4294967, 4294968, 8589934, 99999998} { // per 1000
		d := diskOf(t, image{segment(k): ""})
		appended(t, "beyond 2^32", opened(t, "an empty file", d, 1000, nil), all...)
		looksLike(t, "beyond 2^32", d, written(1000, k, [32]byte{}, all))
		l := opened(t, "beyond 2^32", d, 1000, all)
		numbers(t, "beyond 2^32", l, k*1000+1, k*1000+8)
	}
	// Across 2^32 itself: the record 4294967296 is the 296th of its segment.
	many := some(300)
	d := diskOf(t, written(1000, 4294967, [32]byte{9}, many))
	numbers(t, "across 2^32", opened(t, "across 2^32", d, 1000, many), 4294967001, 4294967301)
}

func TestOpenErrors(t *testing.T) { // P10.1
	refuse := func(what string, d *disk.Disk, per int, want api.Errno) {
		t.Helper()
		if l, p, e := log.Open(d, per); l != nil || len(p) != 0 || e != want {
			t.Errorf("%s: Open answers %v, %q, error %d, want %d", what, l, p, e, want)
		}
	}
	refuse("a nil disk", nil, 1, api.ErrNone)
	refuse("a nil disk", nil, 1000, api.ErrNone)
	refuse("a nil disk, per 0", nil, 0, api.ErrArg)
	refuse("a nil disk, per 1001", nil, 1001, api.ErrArg)
	for _, files := range []image{{}, fresh(2, some(5)), {"other": ""}} {
		d := diskOf(t, files)
		answers(t, "Append", d.Append("x", nil), api.OK)
		answers(t, "Arm", d.Arm(1), api.OK)
		answers(t, "Remove", d.Remove("x"), api.ErrDown)
		ops := d.Ops()
		refuse("the power off", d, 2, api.ErrDown)
		refuse("the power off, per 0", d, 0, api.ErrArg)
		if d.On() || d.Ops() != ops {
			t.Errorf("On = %t, Ops = %d, want %d", d.On(), d.Ops(), ops)
		}
		answers(t, "Restart", d.Restart(disk.Fate{Done: true}), api.OK)
		looksLike(t, "the power on again", d, files)
	}
}
