package bank_test

import (
	"crypto/sha256"
	"encoding/binary"
	"fmt"
	"hash/crc32"
	"maps"
	"slices"
	"strings"
	"testing"

	"passbook/api"
	"passbook/bank"
	"passbook/disk"
	"passbook/event"
	"passbook/model"
)

const (
	minor    = 10000000000000 // the greatest amount
	maxSteps = 4096
	maxFiles = 64
	lastDay  = 3652059
	january  = 31 // the last day of a month
)

func cmd(op byte, numbers ...int64) api.Event {
	e := api.Event{Op: op}
	copy(e.N[:], numbers)
	return e
}

func keyed(key uint64, c api.Event) api.Event {
	c.Key = key
	return c
}

// with: the command with another number at the place.
func with(c api.Event, place int, n int64) api.Event {
	c.N[place] = n
	return c
}

func tiers(c api.Event, l ...api.Tier) api.Event {
	c.Tiers = l
	return c
}

// product: from day 1 on, of 3.65 percent, Act365, Down.
func product(id, kind, cur, fee, limit int64) api.Event {
	return tiers(cmd(api.OpProduct, id, kind, cur, 1, api.Act365, api.Down, fee, limit), api.Tier{From: 0, Rate: 36500000})
}

func open(id, product int64) api.Event              { return cmd(api.OpOpen, id, product) }
func shut(id int64) api.Event                       { return cmd(api.OpClose, id) }
func deposit(id, amount int64) api.Event            { return cmd(api.OpDeposit, id, amount) }
func withdraw(id, amount int64) api.Event           { return cmd(api.OpWithdraw, id, amount) }
func transfer(from, to, amount int64) api.Event     { return cmd(api.OpTransfer, from, to, amount) }
func hold(id, number, amount int64) api.Event       { return cmd(api.OpHold, id, number, amount) }
func free(id, number int64) api.Event               { return cmd(api.OpFree, id, number) }
func lend(loan, id, amount, months int64) api.Event { return cmd(api.OpLend, loan, id, amount, months) }
func repay(loan, id, amount int64) api.Event        { return cmd(api.OpRepay, loan, id, amount) }
func rate(cur, other, rate int64) api.Event         { return cmd(api.OpRate, cur, other, rate) }
func exchange(from, to, amount int64) api.Event     { return cmd(api.OpExchange, from, to, amount) }
func begin(n int64) api.Event                       { return cmd(api.OpBegin, n) }
func step(id, stage, amount int64) api.Event        { return cmd(api.OpStep, id, stage, amount) }
func roll(day int64) api.Event                      { return cmd(api.OpRoll, day) }

// first: a product, an account of it, and a deposit: the first example's.
func first() []api.Event {
	return []api.Event{product(1, api.KindDeposit, api.EUR, 0, 500), open(10, 1), deposit(10, 1000000)}
}

// storyDay: the day on which the story begins; its second end of day is that of a month.
const storyDay = january - 1

// story: commands of each kind, none of which is refused, with two ends of day in pieces.
func story() []api.Event {
	return []api.Event{
		keyed(1, product(1, api.KindDeposit, api.EUR, 7, 500)), product(2, api.KindDeposit, api.JPY, 0, 0), keyed(3, product(3, api.KindLoan, api.EUR, 0, minor)),
		open(10, 1), keyed(1<<63, open(11, 1)), open(20, 2), open(30, 3), open(1000000000, 1),
		keyed(7, deposit(10, 1000000)), transfer(10, 11, 250000), keyed(300, hold(10, 5, 1000)), hold(10, 6, 50), keyed(301, free(10, 6)),
		rate(api.EUR, api.JPY, 1605000000), keyed(8, exchange(10, 20, 101)), lend(30, 10, 777777, 12), keyed(9, repay(30, 10, 77)),
		keyed(10, withdraw(11, 250500)), shut(1000000000),
		begin(2), begin(1), begin(9),
		deposit(11, 500000), keyed(11, rate(api.JPY, api.EUR, 600000000)),
		begin(5), begin(1), begin(maxSteps),
		keyed(12, with(product(1, api.KindDeposit, api.EUR, 9, 100), 3, 40)), deposit(20, 5), keyed(13, open(12, 1)),
	}
}

// image is what a disk holds: the bytes of its files, by their names.
type image map[string]string

func imageOf(t *testing.T, d *disk.Disk) image {
	t.Helper()
	out := image{}
	for _, name := range d.Names() {
		p, e := d.Read(name)
		answers(t, "Read of "+name, e, api.OK)
		out[name] = string(p)
	}
	return out
}

// diskOf gives a disk that holds the image, all synced, and has room for more.
func diskOf(t *testing.T, files image) *disk.Disk {
	t.Helper()
	return diskWith(t, api.MaxSectors, files)
}

func diskWith(t *testing.T, room int, files image) *disk.Disk {
	t.Helper()
	d, e := disk.New(room)
	answers(t, "New", e, api.OK)
	for _, name := range slices.Sorted(maps.Keys(files)) {
		answers(t, "Append to "+name, d.Append(name, []byte(files[name])), api.OK)
		answers(t, "Sync of "+name, d.Sync(name), api.OK)
	}
	return d
}

func looksLike(t *testing.T, what string, d *disk.Disk, want image) {
	t.Helper()
	got := imageOf(t, d)
	if maps.Equal(got, want) {
		return
	}
	for _, name := range slices.Sorted(maps.Keys(want)) {
		if text, ok := got[name]; !ok || text != want[name] {
			t.Errorf("%s: %s has (%t)\n% .200x, want\n% .200x", what, name, ok, text, want[name])
		}
	}
	t.Fatalf("%s: the files are %q, want %q", what, d.Names(), slices.Sorted(maps.Keys(want)))
}

func (m image) with(pairs ...string) image {
	out := maps.Clone(m)
	for i := 0; i < len(pairs); i += 2 {
		out[pairs[i]] = pairs[i+1]
	}
	return out
}

func (m image) without(names ...string) image {
	out := maps.Clone(m)
	for _, name := range names {
		delete(out, name)
	}
	return out
}

func answers(t *testing.T, what string, got, want api.Errno) {
	t.Helper()
	if got != want {
		t.Fatalf("%s answers %d, want %d", what, got, want)
	}
}

// bytesOf: an event's bytes, by the library's numbers.
func bytesOf(e api.Event) string {
	used := [...]int{0, 8, 2, 1, 2, 2, 3, 3, 2, 4, 3, 3, 4, 1, 3, 1}[e.Op]
	p := binary.AppendUvarint([]byte{e.Op}, e.Key)
	for _, n := range e.N[:used] {
		p = binary.AppendVarint(p, n)
	}
	if e.Op == api.OpProduct {
		p = binary.AppendUvarint(p, uint64(len(e.Tiers)))
	}
	for _, tier := range e.Tiers {
		p = binary.AppendVarint(binary.AppendVarint(p, tier.From), tier.Rate)
	}
	return string(p)
}

func allBytes(events []api.Event) []string {
	var out []string
	for _, e := range events {
		out = append(out, bytesOf(e))
	}
	return out
}

// payloadOf: a snapshot's.
func payloadOf(payloads []string) string {
	var out strings.Builder
	for _, p := range payloads {
		out.Write(binary.AppendUvarint(nil, uint64(len(p))))
		out.WriteString(p)
	}
	return out.String()
}

func crcOf(payload string) string {
	return string(binary.BigEndian.AppendUint32(nil, crc32.ChecksumIEEE([]byte(payload))))
}

// sectorsOf: the body in parts, each with its head.
func sectorsOf(mark byte, body string, head func(part, count int) []byte) string {
	count := (len(body) + 23) / 24
	var out strings.Builder
	for part := range count {
		piece := body[part*24 : min(part*24+24, len(body))]
		out.Write([]byte{mark, byte(len(piece))})
		out.Write(head(part, count))
		out.WriteString(piece + strings.Repeat("\x00", 24-len(piece)))
	}
	return out.String()
}

func recordOf(number int, payload string, link [32]byte) string {
	return sectorsOf(0xb1, payload+crcOf(payload)+string(link[:]), func(part, count int) []byte {
		return append(binary.BigEndian.AppendUint32(nil, uint32(number)), byte(part), byte(count))
	})
}

func snapshotOf(payload string) string {
	return sectorsOf(0xb2, payload+crcOf(payload), func(part, count int) []byte {
		return append(binary.BigEndian.AppendUint16(binary.BigEndian.AppendUint16(nil, uint16(part)), uint16(count)), 0, 0)
	})
}

// logOf: the files of a log of these payloads, from the record 1 on.
func logOf(per int, payloads []string) image {
	out := image{}
	var link [32]byte
	for i, p := range payloads {
		link = sha256.Sum256([]byte(string(link[:]) + p))
		out[segment(i/per)] += recordOf(i+1, p, link)
	}
	return out
}

// from: the log without the segments ahead of the k-th.
func (m image) from(k int) image {
	out := maps.Clone(m)
	for i := range k {
		delete(out, segment(i))
	}
	return out
}

// snapped: the image with a snapshot of these payloads, under their number.
func (m image) snapped(payloads []string) image {
	return m.with(snapshot(len(payloads)), snapshotOf(payloadOf(payloads)))
}

func segment(k int) string  { return fmt.Sprintf("l%08d", k) }
func snapshot(n int) string { return fmt.Sprintf("s%012d", n) }

// twin: what a bank must be, by a model alone.
type twin struct {
	m      *model.Model
	events []api.Event
}

// twinOf: of a bank to which these events happened.
func twinOf(t *testing.T, day int, events ...api.Event) *twin {
	t.Helper()
	m, e := model.New(day)
	answers(t, "model.New", e, api.OK)
	w := &twin{m: m}
	for _, e := range events {
		w.happen(t, e)
	}
	return w
}

func (w *twin) happen(t *testing.T, e api.Event) {
	t.Helper()
	if refused := w.m.Apply(e); refused != api.OK {
		t.Fatalf("%v can't be applied: error %d", e, refused)
	}
	w.events = append(w.events, e)
}

// do: the reply that the command must have, and what it changes.
func (w *twin) do(t *testing.T, c api.Event) api.Reply {
	t.Helper()
	brings, moved, refused := w.brings(c)
	for _, e := range brings {
		w.happen(t, e)
	}
	return api.Reply{E: refused, N: moved, Seq: int64(len(w.events))}
}

// brings: all events that the command brings, where nothing fails.
func (w *twin) brings(c api.Event) ([]api.Event, int64, api.Errno) {
	if c.Op != api.OpBegin || event.Check(c) != api.OK {
		planned, moved, refused := w.m.Plan(c)
		if refused != api.OK {
			return nil, 0, refused
		}
		return []api.Event{planned}, moved, api.OK
	}
	due, late := w.m.Due()
	switch {
	case c.N[0] < 1 || c.N[0] > maxSteps:
		return nil, 0, api.ErrArg
	case c.Key != 0:
		return nil, 0, api.ErrSeen
	case late != api.OK:
		return nil, 0, api.ErrDate
	}
	due = due[:min(int64(len(due)), c.N[0])]
	return due, int64(len(due)), api.OK
}

// told: a twin to which all commands happened.
func told(t *testing.T, day int, commands ...api.Event) *twin {
	t.Helper()
	w := twinOf(t, day)
	for _, c := range commands {
		if r := w.do(t, c); r.E != api.OK {
			t.Fatalf("%v: error %d", c, r.E)
		}
	}
	return w
}

func (w *twin) clone(t *testing.T, day int) *twin {
	t.Helper()
	return twinOf(t, day, w.events...)
}

// opened: a bank that is the twin's like.
func opened(t *testing.T, what string, d *disk.Disk, per, day int, w *twin) *bank.Bank {
	t.Helper()
	b, e := bank.Open(d, per, day)
	if e != api.OK || b == nil {
		t.Fatalf("%s: Open answers %v, error %d", what, b, e)
	}
	isLike(t, what, b, w)
	return b
}

// isLike: all that can be asked of the bank is as the twin's.
func isLike(t *testing.T, what string, b *bank.Bank, w *twin) {
	t.Helper()
	if got := b.Events(); !slices.EqualFunc(got, w.events, event.Same) {
		t.Fatalf("%s: the events are %v, want %v", what, got, w.events)
	}
	if b.Day() != w.m.Day() || b.Running() != w.m.Running() {
		t.Fatalf("%s: Day = %d, Running = %t, want %d, %t", what, b.Day(), b.Running(), w.m.Day(), w.m.Running())
	}
	if !slices.Equal(b.Accounts(), w.m.Accounts()) || !slices.Equal(b.Trial(), w.m.Trial()) {
		t.Fatalf("%s: the bank has %v, %v, want %v, %v", what, b.Accounts(), b.Trial(), w.m.Accounts(), w.m.Trial())
	}
	due, refused := w.m.Due()
	if n, e := b.Left(); n != len(due) || e != refused {
		t.Fatalf("%s: Left = %d, error %d, want %d, %d", what, n, e, len(due), refused)
	}
}

// does: the bank answers all commands as the twin does, and stays its like.
func does(t *testing.T, what string, b *bank.Bank, w *twin, commands ...api.Event) {
	t.Helper()
	for _, c := range commands {
		if got, want := b.Do(c), w.do(t, c); got != want {
			t.Fatalf("%s: Do(%v) = %v, want %v", what, c, got, want)
		}
	}
	isLike(t, what, b, w)
}

// replies: the bank answers just that.
func replies(t *testing.T, b *bank.Bank, c api.Event, want api.Reply) {
	t.Helper()
	if got := b.Do(c); got != want {
		t.Fatalf("Do(%v) = %v, want %v", c, got, want)
	}
}

// refuses: the error, with nothing beside it; neither the bank nor the disk changes, which is not even written to.
func refuses(t *testing.T, d *disk.Disk, b *bank.Bank, w *twin, c api.Event, want api.Errno) {
	t.Helper()
	files, ops := imageOf(t, d), d.Ops()
	replies(t, b, c, api.Reply{E: want, Seq: int64(len(w.events))})
	what := fmt.Sprintf("behind %v, which is refused", c)
	isLike(t, what, b, w)
	looksLike(t, what, d, files)
	if d.Ops() != ops {
		t.Fatalf("%s: there were %d operations", what, d.Ops()-ops)
	}
}
