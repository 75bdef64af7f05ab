package pack_test

import (
	"bytes"
	"math"
	"math/big"
	"math/rand"
	"slices"
	"testing"

	"passbook/api"
	"passbook/pack"
)

// tails: what may stand behind that which is read.
func tails() [][]byte {
	return [][]byte{nil, {0}, {1}, raw("80"), raw("ff"), raw("80 80 80 80 80 80 80 80 80 80 80"), []byte("words")}
}

// wantRead follows the document's words: is there a form at the front, of what number, of how many bytes?
func wantRead(p []byte) (uint64, int, bool) {
	last := slices.IndexFunc(p, func(b byte) bool { return b < 128 })
	if last < 0 || last > 9 || last > 0 && p[last] == 0 || last == 9 && p[last] > 1 {
		return 0, 0, false
	}
	n := new(big.Int)
	for _, b := range slices.Backward(p[:last+1]) {
		n.Mul(n, big.NewInt(128))
		n.Add(n, big.NewInt(int64(b%128)))
	}
	return n.Uint64(), last + 1, true
}

func wantSigned(n uint64) int64 {
	if n%2 == 0 {
		return int64(n / 2)
	}
	return -int64(n/2) - 1
}

// checkRead reads p as a number, without and with a sign, and writes what is read.
func checkRead(t *testing.T, p []byte) {
	t.Helper()
	u, size, e := pack.ReadUint(p)
	i, sizeInt, eInt := pack.ReadInt(p)
	want, wantSize, ok := wantRead(p)
	if !ok {
		if u != 0 || size != 0 || e != api.ErrForm {
			t.Fatalf("ReadUint(% x) = %d, %d, error %d; want ErrForm", p, u, size, e)
		}
		if i != 0 || sizeInt != 0 || eInt != api.ErrForm {
			t.Fatalf("ReadInt(% x) = %d, %d, error %d; want ErrForm", p, i, sizeInt, eInt)
		}
		return
	}
	if u != want || size != wantSize || e != api.OK {
		t.Fatalf("ReadUint(% x) = %d, %d, error %d; want %d, %d", p, u, size, e, want, wantSize)
	}
	if i != wantSigned(want) || sizeInt != wantSize || eInt != api.OK {
		t.Fatalf("ReadInt(% x) = %d, %d, error %d; want %d, %d", p, i, sizeInt, eInt, wantSigned(want), wantSize)
	}
	if !bytes.Equal(pack.Uint(nil, u), p[:size]) || !bytes.Equal(pack.Int(nil, i), p[:size]) {
		t.Fatalf("what is read from % x is written as % x and % x", p, pack.Uint(nil, u), pack.Int(nil, i))
	}
}

func TestReadUintExamples(t *testing.T) { // P7.2
	for _, c := range []struct {
		text string
		n    uint64
		size int
	}{
		{"ac 02 99", 300, 2},
		{"00", 0, 1},
		{"00 00", 0, 1},
		{"7f 80", 127, 1},
		{"80 01", 128, 2},
		{"ff ff ff ff ff ff ff ff 7f", math.MaxInt64, 9},
		{"80 80 80 80 80 80 80 80 80 01", 1 << 63, 10},
		{"ff ff ff ff ff ff ff ff ff 01", math.MaxUint64, 10},
		{"ff ff ff ff ff ff ff ff ff 01 02", math.MaxUint64, 10},
	} {
		if n, size, e := pack.ReadUint(raw(c.text)); n != c.n || size != c.size || e != api.OK {
			t.Errorf("ReadUint(%s) = %d, %d, error %d; want %d, %d", c.text, n, size, e, c.n, c.size)
		}
	}
}

func TestReadUintErrors(t *testing.T) { // P7.2
	for _, text := range []string{
		"", "80", "ff", "80 00", "ff 00", "80 80", "80 80 00", "ac 82 00 05",
		"80 80 80 80 80 80 80 80 80", "ff ff ff ff ff ff ff ff 80",
		"80 80 80 80 80 80 80 80 80 00", "80 80 80 80 80 80 80 80 80 02", "ff ff ff ff ff ff ff ff ff 02",
		"ff ff ff ff ff ff ff ff ff 7f", "ff ff ff ff ff ff ff ff ff 80", "ff ff ff ff ff ff ff ff ff 81",
		"80 80 80 80 80 80 80 80 80 80 01", "80 80 80 80 80 80 80 80 80 81 01", "81 80 80 80 80 80 80 80 80 81 00",
	} {
		p := raw(text)
		if _, _, ok := wantRead(p); ok {
			t.Fatalf("%s is of the form", text)
		}
		checkRead(t, p)
	}
	checkRead(t, bytes.Repeat([]byte{0x80}, 100000))
	checkRead(t, append(bytes.Repeat([]byte{0xff}, 100000), 1))
}

func TestReadIntExamples(t *testing.T) { // P7.2
	for _, c := range []struct {
		text string
		n    int64
		size int
	}{
		{"00", 0, 1}, {"01", -1, 1}, {"02", 1, 1}, {"03 05", -2, 1}, {"0e", 7, 1}, {"7f", -64, 1}, {"80 01", 64, 2},
		{"ff ff ff ff ff ff ff ff ff 01", math.MinInt64, 10},
		{"fe ff ff ff ff ff ff ff ff 01 00", math.MaxInt64, 10},
	} {
		if n, size, e := pack.ReadInt(raw(c.text)); n != c.n || size != c.size || e != api.OK {
			t.Errorf("ReadInt(%s) = %d, %d, error %d; want %d, %d", c.text, n, size, e, c.n, c.size)
		}
	}
}

// TestReadAllShort: all lists of at most two bytes, and each byte at each place of long ones.
func TestReadAllShort(t *testing.T) { // P7.2, P7.3
	checkRead(t, nil)
	for a := range 256 {
		checkRead(t, []byte{byte(a)})
		for b := range 256 {
			checkRead(t, []byte{byte(a), byte(b)})
			checkRead(t, []byte{byte(a), byte(b), 0})
		}
	}
	for _, low := range []byte{0x80, 0xd5, 0xff} {
		for size := 1; size <= 13; size++ {
			for place := range size {
				for b := range 256 {
					p := bytes.Repeat([]byte{low}, size)
					p[place] = byte(b)
					checkRead(t, p)
				}
			}
		}
	}
}

func TestReadAnyBytes(t *testing.T) { // P7.2, P7.3
	source := rand.New(rand.NewSource(2))
	for range 100000 {
		p := make([]byte, source.Intn(14))
		source.Read(p)
		// Most bytes are told to go on, so that long numbers come too.
		for i := range p {
			if source.Intn(8) > 0 {
				p[i] |= 0x80
			}
		}
		if len(p) > 0 && source.Intn(2) == 0 {
			p[len(p)-1] = byte(source.Intn(3))
		}
		checkRead(t, p)
	}
}

func TestNumbersAreReadAgain(t *testing.T) { // P7.3
	for _, tail := range tails() {
		for _, n := range uints() {
			p := pack.Uint(nil, n)
			if got, size, e := pack.ReadUint(append(bytes.Clone(p), tail...)); got != n || size != len(p) || e != api.OK {
				t.Fatalf("%d, written and % x behind it, is read as %d, %d, error %d", n, tail, got, size, e)
			}
		}
		for _, n := range ints() {
			p := pack.Int(nil, n)
			if got, size, e := pack.ReadInt(append(bytes.Clone(p), tail...)); got != n || size != len(p) || e != api.OK {
				t.Fatalf("%d, written and % x behind it, is read as %d, %d, error %d", n, tail, got, size, e)
			}
		}
	}
}

// TestNumbersCutOff: no piece from the front of a number that goes on is a number.
func TestNumbersCutOff(t *testing.T) { // P7.2
	for _, n := range uints() {
		p := pack.Uint(nil, n)
		for size := range p {
			if got, count, e := pack.ReadUint(p[:size]); got != 0 || count != 0 || e != api.ErrForm {
				t.Fatalf("ReadUint(% x) = %d, %d, error %d; want ErrForm", p[:size], got, count, e)
			}
		}
	}
}

func refuseBytes(t *testing.T, p []byte, most int, want api.Errno) {
	t.Helper()
	if got, size, e := pack.ReadBytes(p, most); len(got) != 0 || size != 0 || e != want {
		t.Errorf("ReadBytes(% x, %d) = % x, %d, error %d; want error %d", p[:min(len(p), 20)], most, got, size, e, want)
	}
}

func TestReadBytesExamples(t *testing.T) { // P7.2
	for _, c := range []struct {
		text string
		most int
		want string
		size int
	}{
		{"02 61 62", 2, "61 62", 3},
		{"02 61 62", 9, "61 62", 3},
		{"02 61 62 63", api.MaxText, "61 62", 3},
		{"00", 0, "", 1},
		{"00 61", 0, "", 1},
		{"00", api.MaxText, "", 1},
		{"01 00", 1, "00", 2},
	} {
		if got, size, e := pack.ReadBytes(raw(c.text), c.most); !bytes.Equal(got, raw(c.want)) || size != c.size || e != api.OK {
			t.Errorf("ReadBytes(%s, %d) = % x, %d, error %d; want %s, %d", c.text, c.most, got, size, e, c.want, c.size)
		}
	}
}

func TestReadBytesErrors(t *testing.T) { // P7.2
	for text, most := range map[string]int{
		"03 61 62": 9, "02 61 62": 1, "01 61": 0, "": 0, "80": 5, "80 00": 5, "82 00 61 62": 5, "01": 1, "ff 01": 255, "02 61": 2,
		"ff ff ff ff ff ff ff ff ff 01 61": api.MaxText, // 2^64 - 1
		"80 80 80 80 80 80 80 80 80 01 61": api.MaxText, // 2^63
		"ff ff ff ff ff ff ff ff 7f 61":    api.MaxText, // 2^63 - 1
		"81 80 80 80 10 61":                api.MaxText, // 2^32 + 1
		"80 80 80 80 80 80 80 80 80 02":    api.MaxText,
		"80 80 80 80 80 80 80 80 80 80 01": api.MaxText,
	} {
		refuseBytes(t, raw(text), most, api.ErrForm)
	}
	for _, most := range []int{-1, api.MaxText + 1, math.MinInt, math.MaxInt} {
		for _, text := range []string{"00", "02 61 62", "", "80", "03 61"} {
			refuseBytes(t, raw(text), most, api.ErrArg)
		}
	}
}

func TestReadBytesAtMost(t *testing.T) { // P7.2, P7.3
	for _, size := range []int{0, 1, 2, 127, 128, 129, 300, 16383, 16384, api.MaxText - 1, api.MaxText} {
		q := bytes.Repeat([]byte{0xc3, 0, 0x7e}, size/3+1)[:size]
		p := pack.Bytes(nil, q)
		for _, tail := range tails() {
			for _, most := range []int{size, min(size+1, api.MaxText), api.MaxText} {
				got, count, e := pack.ReadBytes(append(bytes.Clone(p), tail...), most)
				if !bytes.Equal(got, q) || count != len(p) || e != api.OK {
					t.Fatalf("%d bytes at most %d are read as %d bytes of %d, error %d", size, most, len(got), count, e)
				}
				if !bytes.Equal(pack.Bytes(nil, got), p) {
					t.Fatalf("%d bytes that are read are not written as they were", size)
				}
			}
			if size > 0 {
				refuseBytes(t, append(bytes.Clone(p), tail...), size-1, api.ErrForm)
				refuseBytes(t, append(bytes.Clone(p), tail...), 0, api.ErrForm)
			}
		}
		if size > 0 {
			refuseBytes(t, p[:len(p)-1], size, api.ErrForm)
		}
	}
	refuseBytes(t, pack.Bytes(nil, make([]byte, api.MaxText+1)), api.MaxText, api.ErrForm)
}

func TestReadingKeepsWhatIsHandedIn(t *testing.T) { // P7.2
	for _, q := range [][]byte{nil, {1}, []byte("words"), make([]byte, 1000)} {
		p, same := roomy(pack.Bytes(nil, q))
		first, _, _ := pack.ReadBytes(p, api.MaxText)
		second, _, _ := pack.ReadBytes(p, api.MaxText)
		scribble(first)
		pack.ReadUint(p)
		pack.ReadInt(p)
		if !same() {
			t.Fatalf("behind reading of %d bytes what was handed in is changed", len(q))
		}
		if !bytes.Equal(second, q) {
			t.Fatalf("two answers of %d bytes share memory", len(q))
		}
		scribble(p)
		if !bytes.Equal(second, q) {
			t.Fatalf("an answer of %d bytes shares memory with what was handed in", len(q))
		}
	}
}

// TestReadStopsAtTheEnd: what lies in the spare room behind p is not p's.
func TestReadStopsAtTheEnd(t *testing.T) { // P7.2
	room := raw("80 01 61 62")
	checkRead(t, room[:1])
	refuseBytes(t, raw("03 61 62 63")[:3], 9, api.ErrForm)
	refuseBytes(t, raw("81 00")[:1], 9, api.ErrForm)
}
