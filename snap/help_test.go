package snap_test

import (
	"encoding/binary"
	"fmt"
	"hash/crc32"
	"maps"
	"slices"
	"strings"
	"testing"

	"passbook/api"
	"passbook/disk"
	"passbook/snap"
)

// image is what a disk holds: the bytes of its files, by their names.
type image map[string]string

func imageOf(t *testing.T, d *disk.Disk) image {
	t.Helper()
	out := image{}
	for _, name := range d.Names() {
		p, e := d.Read(name)
		if e != api.OK {
			t.Fatalf("Read(%s) answers %d", name, e)
		}
		out[name] = string(p)
	}
	return out
}

// diskOf gives a disk that holds the image, all synced, and has room for more.
func diskOf(t *testing.T, files image) *disk.Disk {
	t.Helper()
	d, e := disk.New(api.MaxSectors)
	answers(t, "New", e, api.OK)
	for _, name := range slices.Sorted(maps.Keys(files)) {
		answers(t, "Append to "+name, d.Append(name, []byte(files[name])), api.OK)
		answers(t, "Sync of "+name, d.Sync(name), api.OK)
	}
	return d
}

func looksLike(t *testing.T, what string, d *disk.Disk, want image) {
	t.Helper()
	got := imageOf(t, d)
	if maps.Equal(got, want) {
		return
	}
	for _, name := range slices.Sorted(maps.Keys(want)) {
		if text, ok := got[name]; !ok || text != want[name] {
			t.Errorf("%s: %s has (%t)\n% .200x, want\n% .200x", what, name, ok, text, want[name])
		}
	}
	t.Fatalf("%s: the files are %q, want %q", what, d.Names(), slices.Sorted(maps.Keys(want)))
}

func (m image) with(pairs ...string) image {
	out := maps.Clone(m)
	for i := 0; i < len(pairs); i += 2 {
		out[pairs[i]] = pairs[i+1]
	}
	return out
}

func (m image) without(names ...string) image {
	out := maps.Clone(m)
	for _, name := range names {
		delete(out, name)
	}
	return out
}

func answers(t *testing.T, what string, got, want api.Errno) {
	t.Helper()
	if got != want {
		t.Fatalf("%s answers %d, want %d", what, got, want)
	}
}

func loads(t *testing.T, what string, d *disk.Disk, number int64, payload string) {
	t.Helper()
	n, p, e := snap.Load(d)
	if n != number || string(p) != payload || e != api.OK {
		t.Fatalf("%s: Load = %d, %.60q (%d bytes), error %d, want %d, %.60q (%d bytes)", what, n, p, len(p), e, number, payload, len(payload))
	}
}

func loadsNone(t *testing.T, what string, d *disk.Disk, want api.Errno) {
	t.Helper()
	if n, p, e := snap.Load(d); n != 0 || len(p) != 0 || e != want {
		t.Fatalf("%s: Load = %d, %.60q, error %d, want error %d", what, n, p, e, want)
	}
}

func lists(t *testing.T, what string, d *disk.Disk, want ...int64) {
	t.Helper()
	if got := snap.List(d); !slices.Equal(got, want) {
		t.Fatalf("%s: List = %d, want %d", what, got, want)
	}
}

func name(n int64) string { return fmt.Sprintf("s%012d", n) }

// written: a whole snapshot's sectors, by the library's sum.
func written(payload string) string { return sectorsOf(bodyOf(payload)) }

func bodyOf(payload string) string {
	return payload + string(binary.BigEndian.AppendUint32(nil, crc32.ChecksumIEEE([]byte(payload))))
}

func sectorsOf(body string) string {
	count := (len(body) + 23) / 24
	var out strings.Builder
	for part := range count {
		piece := body[part*24 : min(part*24+24, len(body))]
		head := []byte{0xb2, byte(len(piece)), 0, 0, 0, 0, 0, 0}
		binary.BigEndian.PutUint16(head[2:], uint16(part))
		binary.BigEndian.PutUint16(head[4:], uint16(count))
		out.WriteString(string(head) + piece + strings.Repeat("\x00", 24-len(piece)))
	}
	return out.String()
}

// turned: the text with the byte at that place changed.
func turned(text string, place int, by byte) string {
	p := []byte(text)
	p[place] ^= by
	return string(p)
}

// off lets the power go at an operation on a file of another name, which it leaves as it was.
func off(t *testing.T, d *disk.Disk) {
	t.Helper()
	answers(t, "Arm", d.Arm(1), api.OK)
	answers(t, "Append", d.Append("other", nil), api.ErrDown)
}
