package bank_test

import (
	"fmt"
	"math"
	"strings"
	"testing"

	"passbook/api"
	"passbook/bank"
	"passbook/disk"
)

// opensNot: the error alone, and no operation.
func opensNot(t *testing.T, what string, d *disk.Disk, per, day int, want api.Errno) {
	t.Helper()
	ops := d.Ops()
	if b, e := bank.Open(d, per, day); b != nil || e != want {
		t.Fatalf("%s: Open(%d, %d) answers %v, error %d, want %d", what, per, day, b, e, want)
	}
	if d.Ops() != ops {
		t.Fatalf("%s: Open, which is refused, does %d operations", what, d.Ops()-ops)
	}
}

func wrongPers() []int { return []int{0, -1, 1001, math.MinInt, math.MaxInt} }
func wrongDays() []int { return []int{0, -1, lastDay + 1, math.MinInt, math.MaxInt} }

func TestBoundsOfOpen(t *testing.T) { // P19.1
	for _, per := range []int{1, 2, 999, 1000} {
		for _, day := range []int{1, 2, 40, lastDay - 1, lastDay} {
			d := diskOf(t, nil)
			w := twinOf(t, day)
			b := opened(t, "a new disk", d, per, day, w)
			does(t, "some", b, w, first()...)
			looksLike(t, "some", d, logOf(per, allBytes(first())))
			opened(t, "again", d, per, day, w)
		}
	}
}

// TestWrongBoundsOfOpen: a torn log, which Open would cut, is left alone.
func TestWrongBoundsOfOpen(t *testing.T) { // P19.1, P7
	whole := logOf(4, allBytes(first()))
	torn := whole.with(segment(0), whole[segment(0)]+strings.Repeat("\x00", 32), segment(7), "")
	off := diskOf(t, torn)
	off.Arm(1)
	off.Sync(segment(0))
	for what, d := range map[string]*disk.Disk{"a torn log": diskOf(t, torn), "a new disk": diskOf(t, nil), "no disk": nil, "a disk that is off": off} {
		for _, per := range wrongPers() {
			for _, day := range append(wrongDays(), 1, 40, lastDay) {
				opensNot(t, what, d, per, day, api.ErrArg)
			}
		}
		for _, day := range wrongDays() {
			opensNot(t, what, d, 4, day, api.ErrArg)
		}
	}
	d := diskOf(t, torn)
	opensNot(t, "a torn log", d, 4, 0, api.ErrArg)
	looksLike(t, "a torn log", d, torn)
	opened(t, "a torn log", d, 4, 40, told(t, 40, first()...))
	looksLike(t, "a torn log that was opened", d, whole)
}

func TestNoDisk(t *testing.T) { // P19.1
	opensNot(t, "no disk", nil, 4, 40, api.ErrNone)
	d := diskOf(t, logOf(4, allBytes(first())))
	d.Arm(1)
	d.Sync(segment(0))
	opensNot(t, "a disk that is off", d, 4, 40, api.ErrDown)
	answers(t, "Restart", d.Restart(disk.Fate{}), api.OK)
	opened(t, "a disk that is on again", d, 4, 40, told(t, 40, first()...))
	d = diskOf(t, nil)
	d.Arm(1)
	d.Append("x", nil)
	opensNot(t, "an empty disk that is off", d, 4, 40, api.ErrDown)
}

// TestStrangeFiles: they are neither looked at nor touched, but for the one that a snapshot goes through.
func TestStrangeFiles(t *testing.T) { // P19.1, P19.3
	strange := image{"l0000000": "y", "l000000000": "z", "lx0000000": "", "s1": "q", "s0000000000001": "r", "snapshot": "", "t": "draft", "0": "w"}
	for name, text := range strange {
		strange[name] = text + strings.Repeat("\x00", (32-len(text)%32)%32)
	}
	d := diskOf(t, strange)
	w := twinOf(t, storyDay)
	b := opened(t, "strange files", d, 4, storyDay, w)
	looksLike(t, "opened", d, strange)
	does(t, "the story", b, w, story()...)
	payloads := allBytes(w.events)
	looksLike(t, "the story", d, join(logOf(4, payloads), strange))
	opened(t, "again", d, 4, storyDay, w)
	answers(t, "Snapshot", b.Snapshot(), api.OK)
	looksLike(t, "a snapshot", d, join(logOf(4, payloads).from((len(payloads)-1)/4).snapped(payloads), strange.without("t")))
	opened(t, "a snapshot", d, 4, storyDay, w)
}

func join(a, b image) image {
	for name, text := range b {
		a = a.with(name, text)
	}
	return a
}

// TestTornSnapshots: what is not whole is as if it were not there, up to the next snapshot, which cleans it away.
func TestTornSnapshots(t *testing.T) { // P19.1, P19.3
	w := told(t, storyDay, story()...)
	payloads := allBytes(w.events)
	log := logOf(4, payloads)
	whole := snapshotOf(payloadOf(payloads[:8]))
	for what, text := range map[string]string{
		"noughts":         strings.Repeat("\x00", 64),
		"nothing":         "",
		"the first half":  whole[:len(whole)-32],
		"a changed byte":  whole[:40] + "\xff" + whole[41:],
		"a sector more":   whole + strings.Repeat("\x00", 32),
		"one of another":  recordOf(8, "x", [32]byte{}),
		"a wrong payload": strings.Replace(whole, "\xb2\x18", "\xb2\x17", 1),
	} {
		for _, files := range []image{log, log.snapped(payloads[:5]), log.from(1).snapped(payloads[:4])} {
			d := diskOf(t, files.with(snapshot(8), text, snapshot(999999999999), text, snapshot(0), text))
			b := opened(t, what, d, 4, storyDay, w)
			answers(t, "Snapshot", b.Snapshot(), api.OK)
			looksLike(t, what, d, log.from((len(payloads)-1)/4).snapped(payloads))
		}
	}
}

// TestSnapshotAndLog: every number of a snapshot, and every segment at which the log begins.
func TestSnapshotAndLog(t *testing.T) { // P19.1
	w := told(t, storyDay, story()...)
	payloads := allBytes(w.events)
	for _, per := range []int{1, 4, 7} {
		log := logOf(per, payloads)
		for k := range len(log) {
			files := log.from(k)
			d := diskOf(t, files)
			if k == 0 {
				opened(t, "a log alone", d, per, storyDay, w)
			} else {
				opensNot(t, "a log alone that begins too late", d, per, storyDay, api.ErrForm)
			}
			for n := 1; n <= len(payloads); n++ {
				what := fmt.Sprintf("per %d, from segment %d on, snapshot %d", per, k, n)
				d := diskOf(t, files.snapped(payloads[:n]))
				if k*per+1 > n+1 {
					opensNot(t, what, d, per, storyDay, api.ErrForm)
					continue
				}
				opened(t, what, d, per, storyDay, w)
				looksLike(t, what, d, files.snapped(payloads[:n]))
			}
		}
	}
}

// TestLogThatEndsTooEarly: the snapshot has more events than the log ever told; one that has just as many is right.
func TestLogThatEndsTooEarly(t *testing.T) { // P19.1
	w := told(t, storyDay, story()...)
	payloads := allBytes(w.events)
	for _, per := range []int{1, 4, 1000} {
		for n := 1; n <= len(payloads); n++ {
			files := image{}.snapped(payloads[:n])
			opensNot(t, "a snapshot alone", diskOf(t, files), per, storyDay, api.ErrForm)
			for records := range n {
				d := diskOf(t, logOf(per, payloads[:records]).snapped(payloads[:n]))
				opensNot(t, fmt.Sprintf("%d records, snapshot %d", records, n), d, per, storyDay, api.ErrForm)
			}
			opened(t, "just as many", diskOf(t, logOf(per, payloads[:n]).snapped(payloads[:n])), per, storyDay, twinOf(t, storyDay, w.events[:n]...))
		}
	}
}

// TestEmptyLog: of files without records; where it goes on is told by their names alone.
func TestEmptyLog(t *testing.T) { // P19.1, P19.2
	w := told(t, storyDay, story()...)
	payloads := allBytes(w.events)
	for _, per := range []int{1, 4} {
		for k := range 12 {
			opensOnlyAt := func(files image, n int) {
				t.Helper()
				d := diskOf(t, files)
				what := fmt.Sprintf("per %d, an empty segment %d, snapshot %d", per, k, n)
				if k*per != n {
					opensNot(t, what, d, per, storyDay, api.ErrForm)
					return
				}
				twin := twinOf(t, storyDay, w.events[:n]...)
				b := opened(t, what, d, per, storyDay, twin)
				for !twin.m.Running() && len(twin.events) < n+3 {
					does(t, what, b, twin, rate(api.USD, api.KWD, int64(1+len(twin.events))))
				}
				opened(t, what+", again", d, per, storyDay, twin)
			}
			opensOnlyAt(image{segment(k): ""}, 0)
			for n := 1; n <= 20; n++ {
				opensOnlyAt(image{segment(k): ""}.snapped(payloads[:n]), n)
			}
		}
	}
}

// wrongEvents: behind the first two of the first example none of these can be read, or be applied.
func wrongEvents() map[string]string {
	exchanged := exchange(10, 20, 5)
	exchanged.N[3] = 6
	return map[string]string{
		"no Op":                          "\x00",
		"another Op":                     "\x10\x00",
		"an Op alone":                    "\x04",
		"a number too few":               "\x04\x00\x14",
		"a byte too many":                bytesOf(deposit(10, 5)) + "\x00",
		"a number in another form":       "\x03\x80\x00\x14",
		"nine tiers":                     bytesOf(tiers(product(2, 1, 0, 0, 0), make([]api.Tier, 9)...)),
		"a text":                         "deposit 10 5",
		"as long as a record can be":     strings.Repeat("x", api.MaxBytes),
		"a deposit to no account":        bytesOf(deposit(11, 5)),
		"a deposit of nothing":           bytesOf(deposit(10, 0)),
		"more than it can spend":         bytesOf(withdraw(10, 501)),
		"the same account":               bytesOf(open(10, 1)),
		"the same product":               bytesOf(first()[0]),
		"an exchange of no rate":         bytesOf(exchanged),
		"a run of another day":           bytesOf(begin(41)),
		"a run of no day":                bytesOf(begin(0)),
		"a run with a key":               bytesOf(keyed(1, begin(40))),
		"a step without a run":           bytesOf(step(10, 1, 0)),
		"a roll without a run":           bytesOf(roll(41)),
		"a command with a nought for it": bytesOf(exchange(10, 11, 5)),
	}
}

func TestEventsThatCanNotBe(t *testing.T) { // P19.1
	sound := allBytes(first())
	for what, wrong := range wrongEvents() {
		for _, payloads := range [][]string{{sound[0], sound[1], wrong}, {sound[0], sound[1], wrong, sound[2]}} {
			log := logOf(2, payloads)
			opensNot(t, what+", in the log", diskOf(t, log), 2, 40, api.ErrForm)
			opensNot(t, what+", in the log behind the snapshot", diskOf(t, log.snapped(sound[:2])), 2, 40, api.ErrForm)
			opensNot(t, what+", in the snapshot", diskOf(t, log.snapped(payloads)), 2, 40, api.ErrForm)
			opensNot(t, what+", in the snapshot, the log being right", diskOf(t, logOf(2, append(sound, sound[2], sound[2])).snapped(payloads)), 2, 40, api.ErrForm)
		}
		// The records that the snapshot has, too, are not looked at.
		opened(t, what+", in the log below the snapshot's number", diskOf(t, logOf(2, []string{sound[0], wrong, sound[2]}).snapped(sound[:2])), 2, 40, told(t, 40, first()...))
		opened(t, what+", in the log at the snapshot's number", diskOf(t, logOf(2, []string{sound[0], sound[1], wrong}).snapped(sound)), 2, 40, told(t, 40, first()...))
	}
}

// TestEventsOfARun: just those that come next can be applied, with just their amounts.
func TestEventsOfARun(t *testing.T) { // P19.1
	right := append(first(), begin(january), step(10, 1, 100000000), step(10, 2, 100), step(10, 3, 0), roll(january+1))
	opened(t, "a run", diskOf(t, logOf(4, allBytes(right))), 4, january, twinOf(t, january, right...))
	for place := 3; place < len(right); place++ {
		for _, e := range append(right[3:], deposit(10, 5), begin(january+1), roll(january), step(10, 1, 99999999), step(10, 2, 101), step(10, 3, 1), step(11, 1, 0), keyed(5, right[place])) {
			events := append(append([]api.Event{}, right[:place]...), e)
			same := e.Op == right[place].Op && e.N == right[place].N && e.Key == 0 || place == 3 && e.Op == api.OpDeposit
			d := diskOf(t, logOf(4, allBytes(events)))
			if same {
				opened(t, fmt.Sprint(events), d, 4, january, twinOf(t, january, events...))
				continue
			}
			opensNot(t, fmt.Sprint(events), d, 4, january, api.ErrForm)
		}
	}
	opensNot(t, "another day", diskOf(t, logOf(4, allBytes(right))), 4, january+1, api.ErrForm)
}

// TestKeysOnTheDisk: an event with a key that was used can't be.
func TestKeysOnTheDisk(t *testing.T) { // P19.1, P6
	twice := allBytes(append(first(), keyed(7, deposit(10, 5)), keyed(7, deposit(10, 5))))
	opensNot(t, "in the log", diskOf(t, logOf(2, twice)), 2, 40, api.ErrForm)
	opensNot(t, "in the snapshot", diskOf(t, logOf(2, twice).snapped(twice)), 2, 40, api.ErrForm)
	opensNot(t, "in both", diskOf(t, logOf(2, twice).snapped(twice[:4])), 2, 40, api.ErrForm)
	w := told(t, 40, append(first(), keyed(7, deposit(10, 5)))...)
	d := diskOf(t, logOf(2, twice[:4]).from(1).snapped(twice[:4]))
	b := opened(t, "once", d, 2, 40, w)
	refuses(t, d, b, w, keyed(7, deposit(10, 5)), api.ErrSeen)
}

// TestNumbersOfSnapshots: it must be how many events the snapshot has.
func TestNumbersOfSnapshots(t *testing.T) { // P19.1
	payloads := allBytes(first())
	log := logOf(4, payloads)
	for has := 1; has <= 3; has++ {
		text := snapshotOf(payloadOf(payloads[:has]))
		for _, n := range []int{0, 1, 2, 3, 4, 999999999999} {
			d := diskOf(t, log.with(snapshot(n), text))
			if n == has {
				opened(t, "its number", d, 4, 40, told(t, 40, first()...))
				continue
			}
			opensNot(t, fmt.Sprintf("%d events under the number %d", has, n), d, 4, 40, api.ErrForm)
			looksLike(t, "refused", d, log.with(snapshot(n), text))
		}
	}
}

// TestPayloadsOfSnapshots: whole ones that hold no events.
func TestPayloadsOfSnapshots(t *testing.T) { // P19.1
	payloads := allBytes(first())
	right := payloadOf(payloads)
	log := logOf(4, payloads)
	long := "\x01" + strings.Repeat("x", api.MaxBytes)
	for what, payload := range map[string]string{
		"a byte too few":             right[:len(right)-1],
		"a nought behind":            right + "\x00",
		"a byte behind":              right + "\x01",
		"a nought ahead":             "\x00" + right,
		"a count in another form":    string([]byte{right[0] | 0x80, 0}) + right[1:],
		"a count that is too great":  "\xff\xff\xff\xff\xff\xff\xff\xff\xff\x01" + right[1:],
		"a count without an end":     strings.Repeat("\xff", 30),
		"noughts":                    "\x00\x00\x00",
		"an event that is too long":  payloadOf([]string{payloads[0], payloads[1], long}),
		"one as long as a record is": payloadOf([]string{payloads[0], payloads[1], long[1:]}),
		"events without counts":      payloads[0] + payloads[1] + payloads[2],
	} {
		for n := range 5 {
			opensNot(t, what, diskOf(t, log.with(snapshot(n), snapshotOf(payload))), 4, 40, api.ErrForm)
		}
	}
}

// TestTheGreatestSnapshotHolds: an elder one is not asked, though the newer one can't be read.
func TestTheGreatestSnapshotHolds(t *testing.T) { // P19.1
	w := told(t, storyDay, story()...)
	payloads := allBytes(w.events)
	log := logOf(4, payloads)
	opened(t, "two", diskOf(t, log.from(2).snapped(payloads[:3]).snapped(payloads[:9])), 4, storyDay, w)
	wrong := log.snapped(payloads[:3]).with(snapshot(9), snapshotOf("no events"))
	opensNot(t, "a newer one that can't be read", diskOf(t, wrong), 4, storyDay, api.ErrForm)
	opensNot(t, "a newer one that begins too early", diskOf(t, log.from(2).snapped(payloads[:3])), 4, storyDay, api.ErrForm)
}

// TestTornLog: what Open cuts off is gone, and the bank goes on from there.
func TestTornLog(t *testing.T) { // P19.1, P19.2
	w := told(t, 40, first()...)
	whole := logOf(2, allBytes(append(first(), deposit(10, 1), deposit(10, 2), deposit(10, 3))))
	kept := logOf(2, allBytes(first()))
	last := whole[segment(1)][len(kept[segment(1)]):]
	for what, files := range map[string]image{
		"noughts":                kept.with(segment(1), kept[segment(1)]+strings.Repeat("\x00", 64)),
		"half of a record":       kept.with(segment(1), kept[segment(1)]+last[:32]),
		"the other half":         kept.with(segment(1), kept[segment(1)]+strings.Repeat("\x00", 32)+last[32:]),
		"a segment too far":      kept.with(segment(2), whole[segment(2)]),
		"torn, and some too far": kept.with(segment(1), kept[segment(1)]+last[:32], segment(2), whole[segment(2)], segment(5), ""),
	} {
		for _, snaps := range []image{{}, image{}.snapped(allBytes(first()[:2])), image{}.snapped(allBytes(first()))} {
			d := diskOf(t, join(files, snaps))
			b := opened(t, what, d, 2, 40, w)
			looksLike(t, what, d, join(kept, snaps))
			w := w.clone(t, 40)
			does(t, what, b, w, deposit(10, 7), begin(9))
			looksLike(t, what, d, join(logOf(2, allBytes(w.events)), snaps))
		}
	}
}
