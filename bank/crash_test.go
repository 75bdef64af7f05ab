package bank_test

import (
	"fmt"
	"slices"
	"strings"
	"testing"

	"passbook/api"
	"passbook/bank"
	"passbook/disk"
)

// fates: done and not done, with every way of keeping so many sectors.
func fates(count int) []disk.Fate {
	var out []disk.Fate
	for _, done := range []bool{false, true} {
		for mask := range 1 << count {
			f := disk.Fate{Done: done}
			for i := range count {
				f.Keep = append(f.Keep, mask>>i&1 == 1)
			}
			out = append(out, f)
		}
	}
	return out
}

// sectors: how many the event's record has.
func sectors(e api.Event) int { return (len(bytesOf(e)) + 36 + 23) / 24 }

// isEnded: whatever it is told, with the power off and on; what it tells is as ever, and the disk is not written to.
func isEnded(t *testing.T, what string, d *disk.Disk, b *bank.Bank, w *twin) {
	t.Helper()
	files, ops := imageOf(t, d), d.Ops()
	for _, c := range append(first(), deposit(10, 5), deposit(99, 0), keyed(7, deposit(10, 5)), begin(1), begin(0), keyed(7, begin(1)), cmd(api.OpStep), cmd(api.OpRoll), api.Event{}, with(shut(10), 5, 1)) {
		if r := b.Do(c); r != (api.Reply{E: api.ErrTerminal, Seq: int64(len(w.events))}) {
			t.Fatalf("%s: Do(%v) of an ended Bank = %v", what, c, r)
		}
	}
	answers(t, what+": Snapshot of an ended Bank", b.Snapshot(), api.ErrTerminal)
	isLike(t, what+": an ended Bank", b, w)
	if looksLike(t, what+": an ended Bank", d, files); d.Ops() != ops {
		t.Fatalf("%s: an ended Bank does %d operations", what, d.Ops()-ops)
	}
}

// TestPowerGoesAtACommand: at each operation of each command, the pieces of an end of day among them, with every fate.
func TestPowerGoesAtACommand(t *testing.T) { // P19.2, P19.5, P5
	for _, per := range []int{1, 3, 1000} {
		w := twinOf(t, storyDay)
		for _, c := range story() {
			crashAtCommand(t, per, w.events, c)
			w.do(t, c)
		}
	}
}

func crashAtCommand(t *testing.T, per int, ahead []api.Event, c api.Event) {
	t.Helper()
	files := logOf(per, allBytes(ahead))
	brings, _, _ := twinOf(t, storyDay, ahead...).brings(c)
	for at := 1; at <= 2*len(brings); at++ {
		done := (at - 1) / 2 // of the events
		for _, f := range fates(sectors(brings[done])) {
			what := fmt.Sprintf("per %d, %d events, then %v, at operation %d, %v", per, len(ahead), c, at, f)
			d := diskOf(t, files)
			w := twinOf(t, storyDay, ahead...)
			b := opened(t, what, d, per, storyDay, w)
			answers(t, "Arm", d.Arm(at), api.OK)
			want := api.Reply{E: api.ErrDown, Seq: int64(len(ahead) + done)}
			if c.Op == api.OpBegin {
				want.N = int64(done)
			}
			replies(t, b, c, want)
			for _, e := range brings[:done] {
				w.happen(t, e)
			}
			isEnded(t, what, d, b, w)
			answers(t, "Restart", d.Restart(f), api.OK)
			isEnded(t, what, d, b, w)
			if !slices.Contains(f.Keep, false) || at%2 == 0 && f.Done {
				w.happen(t, brings[done])
			}
			goesOn(t, what, d, per, w)
		}
	}
}

// goesOn: the bank that is opened is the twin's like, and takes what comes; so does the one that is opened then.
func goesOn(t *testing.T, what string, d *disk.Disk, per int, w *twin) {
	t.Helper()
	b := opened(t, what, d, per, storyDay, w)
	does(t, what, b, w, keyed(5555, rate(api.USD, api.KWD, 5)), begin(2), keyed(7, deposit(10, 5)))
	opened(t, what, d, per, storyDay, w)
}

// TestPowerGoesAtASnapshot: at each operation, with every fate; what is left tells in which order they come.
func TestPowerGoesAtASnapshot(t *testing.T) { // P19.3, P19.5, P5
	w := told(t, 40, append(first(), begin(3))...)
	payloads := allBytes(w.events)
	log := logOf(2, payloads)
	files := log.snapped(payloads[:1]).snapped(payloads[:4]).with("t", strings.Repeat("\x00", 32))
	draft := snapshotOf(payloadOf(payloads))
	none := files.without("t")
	whole := none.snapped(payloads)
	states := []image{
		files, none, none.with("t", draft), none.with("t", draft), whole,
		whole.without(segment(0)), whole.from(2),
		whole.from(2).without(snapshot(1)), whole.from(2).without(snapshot(1), snapshot(4)),
	}
	for at := 1; at < len(states); at++ {
		for _, f := range fates(len(draft) / 32) {
			what := fmt.Sprintf("at operation %d, %v", at, f)
			d := diskOf(t, files)
			b := opened(t, what, d, 2, 40, w)
			answers(t, "Arm", d.Arm(at), api.OK)
			answers(t, "Snapshot", b.Snapshot(), api.ErrDown)
			isEnded(t, what, d, b, w)
			answers(t, "Restart", d.Restart(f), api.OK)
			isEnded(t, what, d, b, w)
			want := states[at-1]
			if f.Done && at != 2 {
				want = states[at]
			}
			if at == 2 || at == 3 && !f.Done {
				want = none.with("t", keptOf(draft, f.Keep))
			}
			looksLike(t, what, d, want)
			b = opened(t, what, d, 2, 40, w)
			answers(t, "Snapshot", b.Snapshot(), api.OK)
			looksLike(t, what+", and another snapshot", d, states[len(states)-1])
			opened(t, what, d, 2, 40, w)
		}
	}
	d := diskOf(t, files)
	b := opened(t, "all operations", d, 2, 40, w)
	answers(t, "Arm", d.Arm(len(states)), api.OK)
	answers(t, "Snapshot", b.Snapshot(), api.OK)
	if looksLike(t, "all operations", d, states[len(states)-1]); !d.On() {
		t.Fatalf("Snapshot does more than %d operations", len(states)-1)
	}
}

// keptOf: the sectors, those that are not kept being noughts.
func keptOf(text string, keep []bool) string {
	var out strings.Builder
	for i, kept := range keep {
		piece := text[32*i : 32*i+32]
		if !kept {
			piece = strings.Repeat("\x00", 32)
		}
		out.WriteString(piece)
	}
	return out.String()
}

// TestPowerGoesAtTheSameSnapshot: of one that is written once more over itself.
func TestPowerGoesAtTheSameSnapshot(t *testing.T) { // P19.3, P19.5
	w := told(t, storyDay, story()...)
	payloads := allBytes(w.events)
	last := (len(payloads) - 1) / 4
	files := logOf(4, payloads).from(last).snapped(payloads)
	count := len(snapshotOf(payloadOf(payloads))) / 32
	for at := 1; at <= 3; at++ {
		for _, f := range []disk.Fate{{}, {Done: true}, {Keep: slices.Repeat([]bool{true}, count)}, {Keep: slices.Repeat([]bool{true, false}, count)}, {Keep: slices.Repeat([]bool{false, true}, count)}} {
			d := diskOf(t, files)
			b := opened(t, "a snapshot", d, 4, storyDay, w)
			answers(t, "Arm", d.Arm(at), api.OK)
			answers(t, "Snapshot", b.Snapshot(), api.ErrDown)
			answers(t, "Restart", d.Restart(f), api.OK)
			b = opened(t, "behind a crash", d, 4, storyDay, w)
			answers(t, "Snapshot", b.Snapshot(), api.OK)
			looksLike(t, "behind a crash, and another snapshot", d, files)
		}
	}
}

// TestPowerGoesAtAnOpening: at each operation, again and again; there is no Bank then.
func TestPowerGoesAtAnOpening(t *testing.T) { // P19.1, P19.5, P5
	w := told(t, 40, first()...)
	payloads := allBytes(first())
	kept := logOf(2, payloads)
	beyond := logOf(2, append(payloads, payloads...))
	torn := kept.with(segment(1), kept[segment(1)]+strings.Repeat("\x00", 64), segment(2), beyond[segment(2)], segment(4), "", segment(9), "")
	const operations = 4
	for _, snaps := range []image{{}, image{}.snapped(payloads[:1]), image{}.snapped(payloads)} {
		for at := 1; at <= operations+1; at++ {
			for _, f := range fates(1) {
				d := diskOf(t, join(torn, snaps))
				answers(t, "Arm", d.Arm(at), api.OK)
				b, e := bank.Open(d, 2, 40)
				if at > operations {
					answers(t, "Open", e, api.OK)
					isLike(t, "all operations", b, w)
					looksLike(t, "all operations", d, join(kept, snaps))
					continue
				}
				if b != nil || e != api.ErrDown {
					t.Fatalf("at operation %d: Open answers %v, error %d", at, b, e)
				}
				opensNot(t, "off", d, 2, 40, api.ErrDown)
				answers(t, "Restart", d.Restart(f), api.OK)
				if at == 1 && !f.Done {
					looksLike(t, "the cut isn't done", d, join(torn, snaps))
				}
				b = opened(t, "behind a crash", d, 2, 40, w)
				does(t, "behind a crash", b, w.clone(t, 40), deposit(10, 5))
			}
		}
	}
}

// TestPowerOffAlready: it went at an operation that was none of the bank's.
func TestPowerOffAlready(t *testing.T) { // P19.2, P19.3
	for _, files := range []image{{}, logOf(4, allBytes(first()))} {
		off := func() (*disk.Disk, *bank.Bank, *twin) {
			d := diskOf(t, files)
			w := twinOf(t, 40, first()[:3*len(files)]...)
			b := opened(t, "on", d, 4, 40, w)
			answers(t, "Arm", d.Arm(1), api.OK)
			answers(t, "Append", d.Append("other", nil), api.ErrDown)
			isLike(t, "off", b, w)
			return d, b, w
		}
		d, b, w := off()
		seq := int64(len(w.events))
		replies(t, b, rate(api.EUR, api.JPY, 5), api.Reply{E: api.ErrDown, Seq: seq})
		isEnded(t, "a command", d, b, w)
		answers(t, "Restart", d.Restart(disk.Fate{}), api.OK)
		isEnded(t, "on again", d, b, w)
		opened(t, "on again", d, 4, 40, w)

		d, b, w = off()
		replies(t, b, begin(5), api.Reply{E: api.ErrDown, Seq: seq})
		isEnded(t, "an end of day", d, b, w)

		// What is refused by itself ends no Bank, and what has not answered ErrDown goes on.
		d, b, w = off()
		replies(t, b, deposit(99, 5), api.Reply{E: api.ErrNone, Seq: seq})
		replies(t, b, begin(0), api.Reply{E: api.ErrArg, Seq: seq})
		replies(t, b, api.Event{}, api.Reply{E: api.ErrForm, Seq: seq})
		if seq == 0 {
			answers(t, "Snapshot with no event", b.Snapshot(), api.ErrForm)
		}
		answers(t, "Restart", d.Restart(disk.Fate{}), api.OK)
		does(t, "on again", b, w, rate(api.EUR, api.JPY, 5), begin(5))
		answers(t, "Snapshot", b.Snapshot(), api.OK)
		opened(t, "on again", d, 4, 40, w)

		if seq > 0 {
			d, b, w = off()
			answers(t, "Snapshot", b.Snapshot(), api.ErrDown)
			isEnded(t, "a snapshot", d, b, w)
		}
	}
}
