package bank_test

import (
	"fmt"
	"slices"
	"testing"

	"passbook/api"
	"passbook/bank"
	"passbook/disk"
)

// TestSnapshotOfNothing: it is refused, and the disk isn't written to, though a draft lies there.
func TestSnapshotOfNothing(t *testing.T) { // P19.3, P7
	for _, files := range []image{{}, {"t": "", "other": ""}, {segment(0): ""}, {snapshot(0): "", snapshot(5): ""}} {
		d := diskOf(t, files)
		w := twinOf(t, 40)
		b := opened(t, "no event", d, 4, 40, w)
		ops := d.Ops()
		for range 2 {
			answers(t, "Snapshot with no event", b.Snapshot(), api.ErrForm)
		}
		looksLike(t, "no event", d, files)
		if d.Ops() != ops {
			t.Fatalf("there were %d operations", d.Ops()-ops)
		}
		does(t, "no event", b, w, first()...)
		answers(t, "Snapshot", b.Snapshot(), api.OK)
	}
}

// TestSnapshots: behind one event, two, and so on, and each of them twice; what the disk holds then, byte for byte.
func TestSnapshots(t *testing.T) { // P19.3
	events := told(t, storyDay, story()...).events
	for _, per := range []int{1, 2, 4, 1000} {
		for n := 1; n <= len(events); n++ {
			w := twinOf(t, storyDay, events[:n]...)
			payloads := allBytes(w.events)
			log := logOf(per, payloads)
			want := log.from((n - 1) / per).snapped(payloads)
			what := fmt.Sprintf("per %d, %d events", per, n)
			d := diskOf(t, log)
			b := opened(t, what, d, per, storyDay, w)
			for _, ops := range []int{3 + (n-1)/per, 3} { // Append, Sync, Rename, and a Remove for each segment that goes
				before := d.Ops()
				answers(t, "Snapshot", b.Snapshot(), api.OK)
				looksLike(t, what, d, want)
				isLike(t, what, b, w)
				if d.Ops()-before != ops {
					t.Fatalf("%s: %d operations, want %d", what, d.Ops()-before, ops)
				}
			}
			opened(t, what+", again", d, per, storyDay, w)
			looksLike(t, what, d, want)
		}
	}
}

// TestSnapshotBehindSnapshot: only the last one stays, with the log's last segment, and the bank goes on.
func TestSnapshotBehindSnapshot(t *testing.T) { // P19.3
	for _, per := range []int{1, 3, 5} {
		for every := 1; every <= 6; every++ {
			d := diskOf(t, nil)
			w := twinOf(t, storyDay)
			b := opened(t, "a new disk", d, per, storyDay, w)
			for i, c := range story() {
				what := fmt.Sprintf("per %d, a snapshot every %d commands, behind %d", per, every, i+1)
				does(t, what, b, w, c)
				if (i+1)%every > 0 {
					continue
				}
				answers(t, "Snapshot", b.Snapshot(), api.OK)
				isLike(t, what, b, w)
				last := (len(w.events) - 1) / per
				if got, want := d.Names(), []string{segment(last), snapshot(len(w.events))}; !slices.Equal(got, want) {
					t.Fatalf("%s: the files are %q, want %q", what, got, want)
				}
				looksLike(t, what, d, logOf(per, allBytes(w.events)).from(last).snapped(allBytes(w.events)))
			}
			opened(t, "again", d, per, storyDay, w)
		}
	}
}

// TestSnapshotOfAnEmptySegment: a crash left the file of a record that never came; then all segments ahead of it may go.
func TestSnapshotOfAnEmptySegment(t *testing.T) { // P19.3, P19.5
	w := told(t, 40, append(first(), deposit(10, 4))...)
	payloads := allBytes(w.events)
	d := diskOf(t, logOf(2, payloads).with(segment(2), ""))
	b := opened(t, "an empty segment", d, 2, 40, w)
	for range 2 {
		answers(t, "Snapshot", b.Snapshot(), api.OK)
		looksLike(t, "an empty segment", d, image{segment(2): ""}.snapped(payloads))
		b = opened(t, "again", d, 2, 40, w)
	}
	does(t, "goes on", b, w, deposit(10, 5), deposit(10, 6), deposit(10, 7))
	opened(t, "at last", d, 2, 40, w)
}

// long: events that fill a payload of just so many bytes.
func long(t *testing.T, bytes int) []api.Event {
	t.Helper()
	events := []api.Event{product(1, api.KindDeposit, api.EUR, 0, 0), open(1000000000, 1)}
	size := len(payloadOf(allBytes(events)))
	for key := uint64(1 << 63); size < bytes; key++ {
		e := keyed(key, deposit(1000000000, 1)) // 18 bytes, with their count; 9 with the least key
		left := bytes - size
		if left > 18 && left < 27 {
			left -= 9
		}
		if left < 18 {
			e.Key = 1 << (7 * (left - 9))
		}
		events = append(events, e)
		size += len(payloadOf(allBytes([]api.Event{e})))
	}
	if got := len(payloadOf(allBytes(events))); got != bytes {
		t.Fatalf("the payload has %d bytes, want %d", got, bytes)
	}
	return events
}

// lengthy: a bank with that payload, of a snapshot and an empty segment.
func lengthy(t *testing.T, bytes int) (*disk.Disk, *bank.Bank, *twin) {
	t.Helper()
	w := twinOf(t, 40, long(t, bytes)...)
	payloads := allBytes(w.events)
	d := diskOf(t, image{segment(len(payloads)): ""}.snapped(payloads))
	return d, opened(t, "a long payload", d, 1, 40, w), w
}

// TestLongestPayload: what is too long for a snapshot is not too long for the bank, which goes on.
func TestLongestPayload(t *testing.T) { // P19.3
	const longest, more = 400000, 9 // bytes; so many are those of another deposit, with their count
	for _, bytes := range []int{longest - more, longest - 1, longest} {
		d, b, w := lengthy(t, bytes)
		answers(t, "Snapshot", b.Snapshot(), api.OK)
		for ; bytes <= longest; bytes += more {
			answers(t, fmt.Sprintf("Snapshot of %d bytes", bytes), b.Snapshot(), api.OK)
			does(t, "goes on", b, w, deposit(1000000000, 1))
		}
		last, ops := snapshot(len(w.events)-1), d.Ops()
		for range 2 {
			answers(t, fmt.Sprintf("Snapshot of %d bytes", bytes), b.Snapshot(), api.ErrLong)
		}
		if d.Ops() != ops {
			t.Fatalf("a snapshot that is too long does %d operations", d.Ops()-ops)
		}
		isLike(t, "refused", b, w)
		does(t, "goes on", b, w, deposit(1000000000, 2), begin(maxSteps))
		if names := d.Names(); names[len(names)-1] != last {
			t.Fatalf("the files are %q, want %s among them", names, last)
		}
		opened(t, "again", d, 1, 40, w)
	}
}

// TestTooLongByOne: of a bank whose log has it all.
func TestTooLongByOne(t *testing.T) { // P19.3
	for _, bytes := range []int{400000, 400001} {
		w := twinOf(t, 40, long(t, bytes)...)
		payloads := allBytes(w.events)
		files := logOf(1000, payloads)
		early := 15000 // the disk has no room for all of it and another snapshot
		d := diskOf(t, files.from(early/1000).snapped(payloads[:early]))
		b := opened(t, "a long payload", d, 1000, 40, w)
		want := api.OK
		if bytes > 400000 {
			want = api.ErrLong
		}
		answers(t, fmt.Sprintf("Snapshot of %d bytes", bytes), b.Snapshot(), want)
		if want == api.OK {
			looksLike(t, "a long payload", d, files.from((len(payloads)-1)/1000).snapped(payloads))
		} else {
			looksLike(t, "a long payload", d, files.from(early/1000).snapped(payloads[:early]))
		}
		opened(t, "again", d, 1000, 40, w)
	}
}
