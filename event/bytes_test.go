package event_test

import (
	"bytes"
	"encoding/binary"
	"encoding/hex"
	"math/rand"
	"slices"
	"strings"
	"testing"

	"passbook/api"
	"passbook/event"
)

func raw(text string) []byte {
	p, err := hex.DecodeString(strings.ReplaceAll(text, " ", ""))
	if err != nil {
		panic(err)
	}
	return p
}

// wantBytes follows the document's words by the library's numbers.
func wantBytes(e api.Event) []byte {
	p := binary.AppendUvarint([]byte{e.Op}, e.Key)
	for i := range used[e.Op] {
		p = binary.AppendVarint(p, e.N[i])
	}
	if e.Op == api.OpProduct {
		p = binary.AppendUvarint(p, uint64(len(e.Tiers)))
		for _, tier := range e.Tiers {
			p = binary.AppendVarint(binary.AppendVarint(p, tier.From), tier.Rate)
		}
	}
	return p
}

// alike is told of by itself, so that Same is not held against itself.
func alike(a, b api.Event) bool {
	return a.Op == b.Op && a.Key == b.Key && a.N == b.N && slices.Equal(a.Tiers, b.Tiers)
}

func refuseRead(t *testing.T, p []byte, want api.Errno) {
	t.Helper()
	if x, e := event.Read(p); !alike(x, api.Event{}) || e != want {
		t.Fatalf("Read(% x) = %v, error %d; want error %d", p[:min(len(p), 300)], x, e, want)
	}
}

func TestWriteExamples(t *testing.T) { // P8.2
	for _, c := range []struct {
		e    api.Event
		want string
	}{
		{api.Event{Op: api.OpClose, Key: 300, N: [8]int64{7}}, "03 ac 02 0e"},
		{api.Event{Op: api.OpProduct, N: [8]int64{1, 1, 0, 1}, Tiers: []api.Tier{{Rate: 10}}}, "01 00 02 02 00 02 00 00 00 00 01 00 14"},
		{api.Event{Op: api.OpProduct, N: [8]int64{1, 2, 3, 4, 5, 6, 7, 8}}, "01 00 02 04 06 08 0a 0c 0e 10 00"},
		{api.Event{Op: api.OpProduct, Tiers: []api.Tier{{From: 1, Rate: -1}, {From: 2, Rate: -2}}}, "01 00 00 00 00 00 00 00 00 00 02 02 01 04 03"},
		{api.Event{Op: api.OpOpen, Key: 1, N: [8]int64{10, 3}}, "02 01 14 06"},
		{api.Event{Op: api.OpLend, Key: 2, N: [8]int64{1, 2, 3, 4}}, "09 02 02 04 06 08"},
		{api.Event{Op: api.OpBegin, Key: 0, N: [8]int64{-1}}, "0d 00 01"},
		{api.Event{Op: api.OpRoll, Key: 127}, "0f 7f 00"},
	} {
		if p, e := event.Write(c.e); e != api.OK || !bytes.Equal(p, raw(c.want)) {
			t.Errorf("Write(%v) = % x, error %d; want %s", c.e, p, e, c.want)
		}
		if x, e := event.Read(raw(c.want)); e != api.OK || !alike(x, c.e) {
			t.Errorf("Read(%s) = %v, error %d; want %v", c.want, x, e, c.e)
		}
	}
	if p, e := event.Write(api.Event{Op: api.OpClose, N: [8]int64{7, 5}}); len(p) != 0 || e != api.ErrForm {
		t.Errorf("Write(close with N[1]) = % x, error %d; want ErrForm", p, e)
	}
}

func TestReadErrorExamples(t *testing.T) { // P8.2
	for _, text := range []string{
		"", "00", "00 00", "01", "03", "03 ac", "03 ac 02", "03 ac 02 0e 00", "03 ac 02 8e", "03 ac 02 8e 00",
		"03 80 00 0e", "03 ac 82 00 0e", "10 00", "10 00 00", "ff 00 00", "83 00 0e", "03 00 0e 0e",
		"01 00 02 02 00 02 00 00 00 00", "01 00 02 02 00 02 00 00 00 00 01", "01 00 02 02 00 02 00 00 00 00 01 00",
		"01 00 02 02 00 02 00 00 00 00 01 00 14 00", "01 00 02 02 00 02 00 00 00 00 00 00", "01 00 02 02 00 02 00 00 00 00 80 00",
		"01 00 02 02 00 02 00 00 00 00 81 00 00 14",
		"03 80 80 80 80 80 80 80 80 80 02 0e", "03 00 80 80 80 80 80 80 80 80 80 02", "03 00 ff ff ff ff ff ff ff ff ff ff 01",
	} {
		refuseRead(t, raw(text), api.ErrForm)
	}
}

// TestReadTiers: by count; a count beyond MaxTiers is refused, whatever stands behind it.
func TestReadTiers(t *testing.T) { // P8.2
	front := raw("01 00 02 02 00 02 00 00 00 00")
	for count := range uint64(300) {
		p := append(binary.AppendUvarint(bytes.Clone(front), count), make([]byte, 2*count)...)
		if count > api.MaxTiers {
			refuseRead(t, p, api.ErrForm)
			continue
		}
		if x, e := event.Read(p); e != api.OK || len(x.Tiers) != int(count) {
			t.Errorf("Read of %d Tiers = %v, error %d", count, x, e)
		}
		refuseRead(t, append(p, 0), api.ErrForm)
		refuseRead(t, p[:len(p)-1], api.ErrForm)
	}
	for shift := 8; shift < 64; shift++ {
		for _, count := range []uint64{1 << shift, 1<<shift + 1, 1<<shift + 8, 1<<shift - 1} {
			p := binary.AppendUvarint(bytes.Clone(front), count)
			refuseRead(t, p, api.ErrForm)
			refuseRead(t, append(p, 0, 0), api.ErrForm)
		}
	}
	refuseRead(t, append(bytes.Clone(front), raw("ff ff ff ff ff ff ff ff ff 01 00 00")...), api.ErrForm)
}

func TestWriteAndRead(t *testing.T) { // P8.2
	for _, x := range inForm() {
		p, e := event.Write(x)
		if want := wantBytes(x); e != api.OK || !bytes.Equal(p, want) {
			t.Fatalf("Write(%v) = % x, error %d; want % x", x, p, e, want)
		}
		got, e := event.Read(p)
		if e != api.OK || !alike(got, x) {
			t.Fatalf("Read(Write(%v)) = %v, error %d", x, got, e)
		}
		for size := range p {
			refuseRead(t, p[:size], api.ErrForm)
		}
		for _, b := range []byte{0, 1, 0x80, 0xff} {
			refuseRead(t, append(bytes.Clone(p), b), api.ErrForm)
		}
	}
}

func TestWriteErrors(t *testing.T) { // P8.2
	for _, x := range outOfForm() {
		if p, e := event.Write(x); len(p) != 0 || e != api.ErrForm {
			t.Fatalf("Write(%v) = % x, error %d; want ErrForm", x, p, e)
		}
	}
}

// TestReadLong: ErrLong goes ahead of ErrForm, and MaxBytes are not too many.
func TestReadLong(t *testing.T) { // P8.2
	for _, b := range []byte{0, 1, 3, 16, 0x80, 0xff} {
		refuseRead(t, bytes.Repeat([]byte{b}, api.MaxBytes-1), api.ErrForm)
		refuseRead(t, bytes.Repeat([]byte{b}, api.MaxBytes), api.ErrForm)
		refuseRead(t, bytes.Repeat([]byte{b}, api.MaxBytes+1), api.ErrLong)
		refuseRead(t, bytes.Repeat([]byte{b}, 100000), api.ErrLong)
	}
	p := wantBytes(api.Event{Op: api.OpClose, N: [8]int64{7}})
	refuseRead(t, append(p, make([]byte, api.MaxBytes-len(p))...), api.ErrForm)
	refuseRead(t, append(p, make([]byte, api.MaxBytes+1-len(p))...), api.ErrLong)
}

// TestReadChanged: an event's bytes with one changed, left out or put in are
// either refused, or an event that is written as just these.
func TestReadChanged(t *testing.T) { // P8.2
	for i, x := range inForm() {
		p := wantBytes(x)
		source := rand.New(rand.NewSource(int64(i)))
		for place := range p {
			changed := bytes.Clone(p)
			changed[place] = byte(source.Intn(256))
			checkOneForm(t, changed)
			checkOneForm(t, slices.Delete(bytes.Clone(p), place, place+1))
			checkOneForm(t, slices.Insert(bytes.Clone(p), place, byte(source.Intn(256))))
		}
	}
}

func TestReadAnyBytes(t *testing.T) { // P8.2
	checkOneForm(t, nil)
	for a := range 256 {
		checkOneForm(t, []byte{byte(a)})
		for b := range 256 {
			for c := range 3 {
				checkOneForm(t, []byte{byte(a), byte(b), byte(c)})
			}
		}
	}
	source := rand.New(rand.NewSource(3))
	for range 100000 {
		p := make([]byte, source.Intn(20))
		for i := range p {
			p[i] = byte(source.Intn(20))
			if source.Intn(10) == 0 {
				p[i] |= 0x80
			}
		}
		checkOneForm(t, p)
	}
}

func checkOneForm(t *testing.T, p []byte) {
	t.Helper()
	x, e := event.Read(p)
	if e != api.OK {
		refuseRead(t, p, api.ErrForm)
		return
	}
	if event.Check(x) != api.OK || !bytes.Equal(wantBytes(x), p) {
		t.Fatalf("Read(% x) = %v, whose bytes are % x", p, x, wantBytes(x))
	}
}

func TestReadKeepsWhatIsHandedIn(t *testing.T) { // P8.2
	for _, x := range inForm() {
		room := append(wantBytes(x), 1, 2, 3, 4, 5, 6, 7, 8, 9, 10, 11, 12)
		before := bytes.Clone(room)
		p := room[:len(room)-12]
		first, _ := event.Read(p)
		second, _ := event.Read(p)
		for i := range first.Tiers[:cap(first.Tiers)] {
			first.Tiers[:cap(first.Tiers)][i] = api.Tier{From: -3, Rate: -4}
		}
		if !bytes.Equal(room, before) {
			t.Fatalf("behind reading of %v the bytes are % x", x, room)
		}
		clear(room)
		if !alike(second, x) {
			t.Fatalf("%v, read twice and written over, is %v", x, second)
		}
	}
}

func TestWriteAnswersNewMemory(t *testing.T) { // P8.2
	for _, x := range inForm() {
		first, _ := event.Write(x)
		second, _ := event.Write(x)
		for i := range first[:cap(first)] {
			first[:cap(first)][i] = 0xee
		}
		if !bytes.Equal(second, wantBytes(x)) {
			t.Fatalf("two answers of Write(%v) share memory", x)
		}
	}
}
