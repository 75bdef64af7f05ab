package log_test

import (
	"crypto/sha256"
	"encoding/binary"
	"fmt"
	"hash/crc32"
	"maps"
	"slices"
	"strings"
	"testing"

	"passbook/api"
	"passbook/disk"
	"passbook/log"
)

// image is what a disk holds: the bytes of its files, by their names.
type image map[string]string

func imageOf(t *testing.T, d *disk.Disk) image {
	t.Helper()
	out := image{}
	for _, name := range d.Names() {
		p, e := d.Read(name)
		if e != api.OK {
			t.Fatalf("Read(%s) answers %d", name, e)
		}
		out[name] = string(p)
	}
	return out
}

// diskOf gives a disk that holds the image, all synced, and has room for some more.
func diskOf(t *testing.T, files image) *disk.Disk {
	t.Helper()
	d, e := disk.New(4000)
	answers(t, "New", e, api.OK)
	for _, name := range slices.Sorted(maps.Keys(files)) {
		answers(t, "Append to "+name, d.Append(name, []byte(files[name])), api.OK)
		answers(t, "Sync of "+name, d.Sync(name), api.OK)
	}
	return d
}

func looksLike(t *testing.T, what string, d *disk.Disk, want image) {
	t.Helper()
	got := imageOf(t, d)
	if maps.Equal(got, want) {
		return
	}
	for _, name := range slices.Sorted(maps.Keys(want)) {
		if text, ok := got[name]; !ok || text != want[name] {
			t.Errorf("%s: %s has (%t)\n% x, want\n% x", what, name, ok, text, want[name])
		}
	}
	t.Fatalf("%s: the files are %q, want %q", what, d.Names(), slices.Sorted(maps.Keys(want)))
}

func answers(t *testing.T, what string, got, want api.Errno) {
	t.Helper()
	if got != want {
		t.Fatalf("%s answers %d, want %d", what, got, want)
	}
}

func texts(payloads [][]byte) []string {
	var out []string
	for _, p := range payloads {
		out = append(out, string(p))
	}
	return out
}

// opened opens the log, and looks whether it answers these payloads.
func opened(t *testing.T, what string, d *disk.Disk, per int, want []string) *log.Log {
	t.Helper()
	l, payloads, e := log.Open(d, per)
	if e != api.OK || l == nil {
		t.Fatalf("%s: Open answers %v, error %d", what, l, e)
	}
	if got := texts(payloads); !slices.Equal(got, want) {
		t.Fatalf("%s: Open answers %.60q, want %.60q", what, got, want)
	}
	return l
}

func numbers(t *testing.T, what string, l *log.Log, first, next int64) {
	t.Helper()
	if l.First() != first || l.Next() != next {
		t.Fatalf("%s: First = %d, Next = %d, want %d, %d", what, l.First(), l.Next(), first, next)
	}
}

// appended appends them all, and looks at their numbers.
func appended(t *testing.T, what string, l *log.Log, payloads ...string) {
	t.Helper()
	for _, p := range payloads {
		want := l.Next()
		if n, e := l.Append([]byte(p)); n != want || e != api.OK {
			t.Fatalf("%s: Append of %d bytes answers %d, error %d, want %d", what, len(p), n, e, want)
		}
		if l.Next() != want+1 {
			t.Fatalf("%s: behind Append Next = %d, want %d", what, l.Next(), want+1)
		}
	}
}

func segment(k int64) string { return fmt.Sprintf("l%08d", k) }

// writer makes records by the library's sums.
type writer struct {
	number int64 // of the next one
	link   [32]byte
}

func (w *writer) body(payload string) string {
	w.link = sha256.Sum256([]byte(string(w.link[:]) + payload))
	return payload + string(binary.BigEndian.AppendUint32(nil, crc32.ChecksumIEEE([]byte(payload)))) + string(w.link[:])
}

func (w *writer) record(payload string) string {
	out := sectorsOf(w.number, w.body(payload))
	w.number++
	return out
}

func sectorsOf(number int64, body string) string {
	count := (len(body) + 23) / 24
	var out strings.Builder
	for part := range count {
		piece := body[part*24 : min(part*24+24, len(body))]
		head := []byte{0xb1, byte(len(piece)), 0, 0, 0, 0, byte(part), byte(count)}
		binary.BigEndian.PutUint32(head[2:], uint32(number))
		out.WriteString(string(head) + piece + strings.Repeat("\x00", 24-len(piece)))
	}
	return out.String()
}

// written: the files of a log from the segment k on, with these payloads, linked to what is ahead.
func written(per int, k int64, ahead [32]byte, payloads []string) image {
	out := image{}
	w := &writer{number: k*int64(per) + 1, link: ahead}
	for i, p := range payloads {
		out[segment(k+int64(i/per))] += w.record(p)
	}
	return out
}

// fresh: the same of a log that begins with the record 1.
func fresh(per int, payloads []string) image { return written(per, 0, [32]byte{}, payloads) }

// with: the image with these files changed or put in; by pairs of names and bytes.
func (m image) with(pairs ...string) image {
	out := maps.Clone(m)
	for i := 0; i < len(pairs); i += 2 {
		out[pairs[i]] = pairs[i+1]
	}
	return out
}

func (m image) without(names ...string) image {
	out := maps.Clone(m)
	for _, name := range names {
		delete(out, name)
	}
	return out
}

// some gives count payloads of unlike lengths.
func some(count int) []string {
	var out []string
	for i := range count {
		out = append(out, strings.Repeat(string(rune('a'+i%26)), 1+i*7%30))
	}
	return out
}

// turned: the text with the byte at that place changed.
func turned(text string, place int, by byte) string {
	p := []byte(text)
	p[place] ^= by
	return string(p)
}
