package disk_test

import (
	"math/rand"
	"regexp"
	"slices"
	"testing"

	"passbook/api"
	"passbook/disk"
)

// plain is a disk as the chapter tells it, with a mark on each sector, and a list of what is kept anew at each call.
type plain struct {
	room, ops, armed int
	down             bool
	files            []plainFile // in the order of their names
	later            []plainFile // what they are if the operation at which the power went was done
}

type plainFile struct {
	name    string
	sectors []plainSector
}

type plainSector struct {
	bytes  string
	synced bool
}

var plainName = regexp.MustCompile(`^[a-z0-9]{1,16}\z`)

func copied(files []plainFile) []plainFile {
	var out []plainFile
	for _, f := range files {
		out = append(out, plainFile{f.name, slices.Clone(f.sectors)})
	}
	return out
}

func (d *plain) at(name string) int {
	return slices.IndexFunc(d.files, func(f plainFile) bool { return f.name == name })
}

func (d *plain) without(name string) []plainFile {
	return slices.DeleteFunc(copied(d.files), func(f plainFile) bool { return f.name == name })
}

func (d *plain) inOrder(files []plainFile) []plainFile {
	slices.SortFunc(files, func(a, b plainFile) int {
		if a.name < b.name {
			return -1
		}
		return 1
	})
	return files
}

// goes counts an operation: does the power go at it?
func (d *plain) goes() bool {
	d.ops++
	d.armed--
	return d.armed == 0
}

func (d *plain) append(name string, p []byte) api.Errno {
	if !plainName.MatchString(name) {
		return api.ErrArg
	}
	next := copied(d.files)
	if d.at(name) < 0 {
		next = d.inOrder(append(next, plainFile{name: name}))
	}
	text := string(p)
	for len(text)%32 != 0 {
		text += "\x00"
	}
	count := 0
	for i := range next {
		for next[i].name == name && len(text) > 0 {
			next[i].sectors = append(next[i].sectors, plainSector{bytes: text[:32]})
			text = text[32:]
		}
		count += len(next[i].sectors)
	}
	if count > d.room || len(next) > api.MaxFiles {
		return api.ErrFull
	}
	if d.down {
		return api.ErrDown
	}
	d.files = next
	if d.goes() {
		d.down, d.later = true, next
		return api.ErrDown
	}
	return api.OK
}

func (d *plain) other(files []plainFile) api.Errno {
	if d.down {
		return api.ErrDown
	}
	if d.goes() {
		d.down, d.later = true, files
		return api.ErrDown
	}
	d.files = files
	return api.OK
}

func (d *plain) truncate(name string, n int) api.Errno {
	if !plainName.MatchString(name) || n < 0 {
		return api.ErrArg
	}
	if d.at(name) < 0 {
		return api.ErrNone
	}
	next := copied(d.files)
	f := &next[d.at(name)]
	if n < len(f.sectors) {
		f.sectors = f.sectors[:n]
	}
	for i := range f.sectors {
		f.sectors[i].synced = true
	}
	return d.other(next)
}

func (d *plain) sync(name string) api.Errno { return d.truncate(name, 1000000) }

func (d *plain) rename(a, b string) api.Errno {
	if !plainName.MatchString(a) || !plainName.MatchString(b) {
		return api.ErrArg
	}
	if d.at(a) < 0 {
		return api.ErrNone
	}
	if a == b {
		return d.other(copied(d.files))
	}
	next := d.without(b)
	for i := range next {
		if next[i].name == a {
			next[i].name = b
		}
	}
	return d.other(d.inOrder(next))
}

func (d *plain) remove(name string) api.Errno {
	if !plainName.MatchString(name) {
		return api.ErrArg
	}
	if d.at(name) < 0 {
		return api.ErrNone
	}
	return d.other(d.without(name))
}

func (d *plain) arm(n int) api.Errno {
	if n < 0 {
		return api.ErrArg
	}
	if d.down {
		return api.ErrDown
	}
	d.armed = n
	return api.OK
}

func (d *plain) restart(f disk.Fate) api.Errno {
	if !d.down {
		return api.ErrState
	}
	if f.Done {
		d.files = d.later
	}
	keep := f.Keep
	for _, file := range d.files {
		for i := range file.sectors {
			s := &file.sectors[i]
			if s.synced {
				continue
			}
			if len(keep) == 0 || !keep[0] {
				s.bytes = string(make([]byte, 32))
			}
			if len(keep) > 0 {
				keep = keep[1:]
			}
			s.synced = true
		}
	}
	d.down, d.armed, d.later = false, 0, nil
	return api.OK
}

// read: all bytes, and how many sectors.
func (d *plain) read(name string) (string, int, api.Errno) {
	if !plainName.MatchString(name) {
		return "", 0, api.ErrArg
	}
	if d.at(name) < 0 {
		return "", 0, api.ErrNone
	}
	if d.down {
		return "", 0, api.ErrDown
	}
	text, count := "", 0
	for _, s := range d.files[d.at(name)].sectors {
		text += s.bytes
		count++
	}
	return text, count, api.OK
}

// chances picks what is asked next, and of what.
type chances struct{ *rand.Rand }

func (c chances) name() string {
	all := []string{"a", "b", "b0", "c", "0", "zzzzzzzzzzzzzzzz", "a", "b", "c", "", "A", "zzzzzzzzzzzzzzzzz", "a b"}
	if c.Intn(8) > 0 {
		return all[c.Intn(9)]
	}
	return all[c.Intn(len(all))]
}

func (c chances) bytes() []byte {
	p := make([]byte, []int{0, 1, 31, 32, 33, 64, 65, 100}[c.Intn(8)])
	c.Read(p)
	return p
}

func (c chances) fate() disk.Fate {
	f := disk.Fate{Done: c.Intn(2) == 0}
	for range c.Intn(12) {
		f.Keep = append(f.Keep, c.Intn(2) == 0)
	}
	return f
}

// ask asks both disks the same: what it was, and their errors.
func (c chances) ask(d *disk.Disk, p *plain) (string, api.Errno, api.Errno) {
	name := c.name()
	switch c.Intn(11) {
	case 0, 1, 2, 3:
		b := c.bytes()
		return "Append", d.Append(name, b), p.append(name, b)
	case 4:
		return "Sync", d.Sync(name), p.sync(name)
	case 5:
		n := c.Intn(6) - 1
		return "Truncate", d.Truncate(name, n), p.truncate(name, n)
	case 6:
		to := c.name()
		return "Rename", d.Rename(name, to), p.rename(name, to)
	case 7:
		return "Remove", d.Remove(name), p.remove(name)
	case 8:
		n := c.Intn(5) - 1
		return "Arm", d.Arm(n), p.arm(n)
	}
	f := c.fate()
	return "Restart", d.Restart(f), p.restart(f)
}

func (p *plain) names() []string {
	var out []string
	for _, f := range p.files {
		if !p.down {
			out = append(out, f.name)
		}
	}
	return out
}

func alike(t *testing.T, what string, d *disk.Disk, p *plain) {
	t.Helper()
	if d.On() == p.down || d.Ops() != p.ops || !slices.Equal(d.Names(), p.names()) {
		t.Fatalf("%s: On = %t, Ops = %d, Names = %q, want %t, %d, %q", what, d.On(), d.Ops(), d.Names(), !p.down, p.ops, p.names())
	}
	for _, name := range []string{"a", "b", "b0", "c", "0", "zzzzzzzzzzzzzzzz", "", "A"} {
		text, count, want := p.read(name)
		if got, e := d.Read(name); e != want || string(got) != text {
			t.Fatalf("%s: Read(%q) = %q, %d, want %q, %d", what, name, got, e, text, want)
		}
		if n, e := d.Size(name); e != want || n != count {
			t.Fatalf("%s: Size(%q) = %d, %d, want %d, %d", what, name, n, e, count, want)
		}
	}
}

func TestAgainstThePlainDisk(t *testing.T) { // P9.1, P9.2, P9.3, P9.4
	seen := map[string]int{}
	for seed := range int64(300) {
		c := chances{rand.New(rand.NewSource(seed))}
		room := 1 + c.Intn(16)
		d, p := made(t, room), &plain{room: room}
		for range 200 {
			what, e, want := c.ask(d, p)
			if e != want {
				t.Fatalf("%s answers %d, want %d", what, e, want)
			}
			seen[what+" "+string(rune('a'+e))]++
			alike(t, what, d, p)
		}
	}
	for _, what := range []string{"Append", "Sync", "Truncate", "Rename", "Remove"} {
		for _, e := range []api.Errno{api.OK, api.ErrArg, api.ErrDown} {
			if seen[what+" "+string(rune('a'+e))] < 20 {
				t.Errorf("%s answered %d only %d times", what, e, seen[what+" "+string(rune('a'+e))])
			}
		}
	}
}
