package log_test

import (
	"encoding/binary"
	"hash/crc32"
	"maps"
	"math/rand"
	"regexp"
	"slices"
	"strconv"
	"strings"
	"testing"

	"passbook/api"
)

// plain is a log as the chapter tells it, on an image, read sector by sector.
type plain struct {
	per      int64
	files    image
	payloads []string
	first    int64
	next     int64
	link     [32]byte // of the last record; noughts, where there is none
	steps    []string // the operations, in their order
}

var segmentName = regexp.MustCompile(`^l[0-9]{8}$`)

func (l *plain) segments() []int64 {
	var out []int64
	for name := range l.files {
		if segmentName.MatchString(name) {
			k, _ := strconv.ParseInt(name[1:], 10, 64)
			out = append(out, k)
		}
	}
	slices.Sort(out)
	return out
}

func plainOpen(per int, files image) *plain {
	l := &plain{per: int64(per), files: maps.Clone(files), first: 1, next: 1}
	all := l.segments()
	if len(all) == 0 {
		return l
	}
	k := all[0]
	l.first = k*l.per + 1
	l.next = l.first
	for l.readFile(k) {
		if _, ok := l.files[segment(k+1)]; !ok {
			break
		}
		k++
	}
	for i := len(all) - 1; i >= 0 && all[i] > k; i-- {
		l.steps = append(l.steps, "remove "+segment(all[i]))
		delete(l.files, segment(all[i]))
	}
	return l
}

// readFile: has the file just its segment's records? Else it is cut behind the last one that is whole.
func (l *plain) readFile(k int64) bool {
	text := l.files[segment(k)]
	end := 0
	for l.next <= (k+1)*l.per {
		size := l.readRecord(text[end:])
		if size == 0 {
			break
		}
		end += size
	}
	if end < len(text) {
		l.steps = append(l.steps, "cut "+segment(k))
		l.files[segment(k)] = text[:end]
		return false
	}
	return l.next > (k+1)*l.per
}

// readRecord: how many bytes the next whole record has; 0, if there is none.
func (l *plain) readRecord(text string) int {
	body := ""
	for part := 0; ; part++ {
		if len(text) < 32*(part+1) {
			return 0
		}
		s := text[32*part : 32*part+32]
		count, size := int(s[7]), int(s[1])
		if s[0] != 0xb1 || binary.BigEndian.Uint32([]byte(s[2:6])) != uint32(l.next) || int(s[6]) != part || part >= count || s[7] != text[7] {
			return 0
		}
		if size == 0 || size > 24 || size < 24 && part < count-1 || strings.Trim(s[8+size:], "\x00") != "" {
			return 0
		}
		body += s[8 : 8+size]
		if part == count-1 {
			break
		}
	}
	if len(body) < 37 || len(body) > 4096+36 {
		return 0
	}
	payload := body[:len(body)-36]
	if binary.BigEndian.Uint32([]byte(body[len(payload):])) != crc32.ChecksumIEEE([]byte(payload)) {
		return 0
	}
	w := &writer{link: l.link}
	right := w.body(payload) == body
	if !right && (len(l.payloads) > 0 || l.next == 1) {
		return 0
	}
	l.link = [32]byte([]byte(body[len(body)-32:]))
	l.payloads = append(l.payloads, payload)
	l.next++
	return 32 * ((len(body) + 23) / 24)
}

func (l *plain) append(p string) {
	w := &writer{number: l.next, link: l.link}
	l.files[segment((l.next-1)/l.per)] += w.record(p)
	l.link = w.link
	l.payloads = append(l.payloads, p)
	l.next++
}

func (l *plain) prune(n int64) {
	all := l.segments()
	for i, k := range all {
		if i == len(all)-1 || (k+1)*l.per >= n {
			return
		}
		delete(l.files, segment(k))
		gone := (k+1)*l.per + 1 - l.first
		l.payloads = l.payloads[gone:]
		l.first += gone
		if len(l.payloads) == 0 {
			l.link = [32]byte{}
		}
	}
}

// chances makes files and does harm to them.
type chances struct{ *rand.Rand }

func (c chances) payload() string {
	return strings.Repeat(string(rune('a'+c.Intn(26))), 1+c.Intn([]int{3, 30, 100}[c.Intn(3)]))
}

func (c chances) files(per int) image {
	var ahead [32]byte
	k := int64(c.Intn(4) * c.Intn(4))
	if k > 0 {
		c.Read(ahead[:])
	}
	var all []string
	for range c.Intn(5*per + 1) {
		all = append(all, c.payload())
	}
	return written(per, k, ahead, all)
}

// harm changes one thing in the files.
func (c chances) harm(files image) image {
	names := slices.Sorted(maps.Keys(files))
	if len(names) == 0 {
		return files.with(segment(int64(c.Intn(3))), "")
	}
	name := names[c.Intn(len(names))]
	text := files[name]
	if len(text) == 0 {
		return files.without(name)
	}
	at := c.Intn(len(text)/32) * 32
	switch c.Intn(11) {
	case 0:
		return files.without(name)
	case 1:
		return files.with(name, "")
	case 2:
		return files.with(name, text[:at])
	case 3:
		return files.with(name, text[:at]+text[at+32:])
	case 4:
		return files.with(name, text[:at]+strings.Repeat("\x00", 32)+text[at+32:])
	case 5:
		return files.with(name, text[:at]+text[at:at+32]+text[at:])
	case 6:
		return files.with(name, text+files[names[c.Intn(len(names))]])
	case 7:
		return files.with(name, files[names[c.Intn(len(names))]])
	case 8:
		return files.with(segment(int64(c.Intn(12))), text)
	}
	return files.with(name, turned(text, at+c.Intn(32), byte(1<<c.Intn(8))))
}

func TestAgainstThePlainLog(t *testing.T) { // P10.1, P10.2, P10.3
	seen := map[string]int{}
	for seed := range int64(6000) {
		c := chances{rand.New(rand.NewSource(seed))}
		per := 1 + c.Intn(4)
		files := c.files(per)
		for range c.Intn(4) {
			files = c.harm(files)
		}
		if c.Intn(8) == 0 {
			per = 1 + c.Intn(5)
		}
		seen[againstThePlainLog(t, c, per, files)]++
	}
	for _, what := range []string{"", "cut", "remove", "cut remove"} {
		if seen[what] < 100 {
			t.Errorf("Open did %q only %d times", what, seen[what])
		}
	}
}

// againstThePlainLog tells which kinds of operations Open did.
func againstThePlainLog(t *testing.T, c chances, per int, files image) string {
	t.Helper()
	d := diskOf(t, files)
	ops := d.Ops()
	want := plainOpen(per, files)
	l := opened(t, "harmed", d, per, want.payloads)
	if d.Ops() != ops+len(want.steps) {
		t.Fatalf("Open does %d operations, want %q", d.Ops()-ops, want.steps)
	}
	kinds := ""
	for _, step := range want.steps {
		if kind, _, _ := strings.Cut(step, " "); !strings.Contains(kinds, kind) {
			kinds = strings.TrimSpace(kinds + " " + kind)
		}
	}
	for range 8 {
		looksLike(t, "harmed", d, want.files)
		numbers(t, "harmed", l, want.first, want.next)
		if c.Intn(3) == 0 {
			n := want.next - int64(c.Intn(3*per+1)) + 1
			want.prune(n)
			answers(t, "Prune", l.Prune(n), api.OK)
		} else {
			p := c.payload()
			want.append(p)
			appended(t, "harmed", l, p)
		}
		if c.Intn(6) == 0 {
			l = opened(t, "harmed", d, per, want.payloads)
		}
	}
	looksLike(t, "harmed", d, want.files)
	return kinds
}
