package pack_test

import (
	"bytes"
	"encoding/binary"
	"encoding/hex"
	"math"
	"math/big"
	"math/rand"
	"strings"
	"testing"

	"passbook/pack"
)

// raw reads bytes as the document tells them.
func raw(text string) []byte {
	p, err := hex.DecodeString(strings.ReplaceAll(text, " ", ""))
	if err != nil {
		panic(err)
	}
	return p
}

// wantUint follows the document's words by a number without bound.
func wantUint(n *big.Int) []byte {
	var out []byte
	left, low := new(big.Int).Set(n), new(big.Int)
	for {
		left.DivMod(left, big.NewInt(128), low)
		if left.Sign() == 0 {
			return append(out, byte(low.Int64()))
		}
		out = append(out, byte(low.Int64())+128)
	}
}

// unfolded: 2 n from 0 on, and -2 n - 1 below.
func unfolded(n int64) *big.Int {
	twice := new(big.Int).Mul(big.NewInt(2), big.NewInt(n))
	if n >= 0 {
		return twice
	}
	twice.Neg(twice)
	return twice.Sub(twice, big.NewInt(1))
}

// uints: about each power of two, so of one to ten bytes, and some of each size.
func uints() []uint64 {
	source := rand.New(rand.NewSource(7))
	out := []uint64{0, 300, math.MaxUint64}
	for shift := range 64 {
		power := uint64(1) << shift
		out = append(out, power-1, power, power+1, math.MaxUint64-power, math.MaxUint64>>shift)
		for range 20 {
			out = append(out, source.Uint64()>>shift)
		}
	}
	return out
}

func ints() []int64 {
	out := []int64{0, -1, math.MinInt64, math.MaxInt64}
	for _, n := range uints() {
		out = append(out, int64(n), -int64(n))
	}
	return out
}

// fronts: what is written behind; the longer ones with spare room.
func fronts() [][]byte {
	return [][]byte{nil, {}, {7}, raw("80"), raw("ff ff ff"), bytes.Repeat([]byte{0xa5}, 5000)}
}

// roomy answers p with spare room behind it, and a look whether all of it is as it was.
func roomy(p []byte) ([]byte, func() bool) {
	room := append(bytes.Clone(p), bytes.Repeat([]byte{0x5a}, 40)...)
	before := bytes.Clone(room)
	return room[:len(p)], func() bool { return bytes.Equal(room, before) }
}

func TestWriteExamples(t *testing.T) { // P7.1
	for _, c := range []struct {
		got  []byte
		want string
	}{
		{pack.Uint(nil, 300), "ac 02"},
		{pack.Uint(nil, 0), "00"},
		{pack.Uint(nil, 1), "01"},
		{pack.Uint(nil, 127), "7f"},
		{pack.Uint(nil, 128), "80 01"},
		{pack.Uint(nil, 16383), "ff 7f"},
		{pack.Uint(nil, 16384), "80 80 01"},
		{pack.Uint(nil, 1<<63-1), "ff ff ff ff ff ff ff ff 7f"},
		{pack.Uint(nil, 1<<63), "80 80 80 80 80 80 80 80 80 01"},
		{pack.Uint(nil, math.MaxUint64), "ff ff ff ff ff ff ff ff ff 01"},
		{pack.Int(nil, 0), "00"},
		{pack.Int(nil, -1), "01"},
		{pack.Int(nil, 1), "02"},
		{pack.Int(nil, -64), "7f"},
		{pack.Int(nil, 64), "80 01"},
		{pack.Int(nil, math.MinInt64), "ff ff ff ff ff ff ff ff ff 01"},
		{pack.Int(nil, math.MaxInt64), "fe ff ff ff ff ff ff ff ff 01"},
		{pack.Int([]byte{9}, 7), "09 0e"},
		{pack.Bytes([]byte{7}, []byte("ab")), "07 02 61 62"},
		{pack.Bytes(nil, nil), "00"},
		{pack.Bytes([]byte{}, []byte{}), "00"},
		{pack.Bytes([]byte{0x80}, nil), "80 00"},
		{pack.Bytes(nil, []byte{0}), "01 00"},
	} {
		if !bytes.Equal(c.got, raw(c.want)) {
			t.Errorf("written: % x, want %s", c.got, c.want)
		}
	}
}

func TestUintAndInt(t *testing.T) { // P7.1
	for _, p := range fronts() {
		for _, n := range uints() {
			want := append(bytes.Clone(p), wantUint(new(big.Int).SetUint64(n))...)
			if got := pack.Uint(p, n); !bytes.Equal(got, want) {
				t.Fatalf("Uint(%d bytes, %d) ends in % x, want % x", len(p), n, got[min(len(p), len(got)):], want[len(p):])
			}
		}
		for _, n := range ints() {
			want := append(bytes.Clone(p), wantUint(unfolded(n))...)
			if got := pack.Int(p, n); !bytes.Equal(got, want) {
				t.Fatalf("Int(%d bytes, %d) ends in % x, want % x", len(p), n, got[min(len(p), len(got)):], want[len(p):])
			}
		}
	}
}

func TestUintAsTheLibraryWrites(t *testing.T) { // P7.1
	for _, n := range uints() {
		if got, want := pack.Uint(nil, n), binary.AppendUvarint(nil, n); !bytes.Equal(got, want) {
			t.Errorf("Uint(%d) = % x, want % x", n, got, want)
		}
		if got, want := pack.Int(nil, int64(n)), binary.AppendVarint(nil, int64(n)); !bytes.Equal(got, want) {
			t.Errorf("Int(%d) = % x, want % x", int64(n), got, want)
		}
	}
}

func TestBytes(t *testing.T) { // P7.1
	for _, p := range fronts() {
		for _, size := range []int{0, 1, 2, 127, 128, 129, 16383, 16384, 65535, 65536, 65537, 1 << 21} {
			q := bytes.Repeat([]byte{0xe1, 0x80, 0}, size/3+1)[:size]
			want := append(append(bytes.Clone(p), wantUint(big.NewInt(int64(size)))...), q...)
			if got := pack.Bytes(p, q); !bytes.Equal(got, want) {
				t.Errorf("Bytes(%d bytes, %d bytes) is wrong", len(p), size)
			}
		}
	}
}

func TestWritingKeepsWhatIsHandedIn(t *testing.T) { // P7.1
	q, sameQ := roomy([]byte("words"))
	for _, p := range fronts() {
		p, sameP := roomy(p)
		for name, call := range map[string]func() []byte{
			"Uint":  func() []byte { return pack.Uint(p, math.MaxUint64) },
			"Int":   func() []byte { return pack.Int(p, 5) },
			"Bytes": func() []byte { return pack.Bytes(p, q) },
		} {
			first := call()
			second := call()
			before := bytes.Clone(second)
			scribble(first)
			if !sameP() || !sameQ() {
				t.Fatalf("%s: what was handed in, or its spare room, is written over", name)
			}
			if !bytes.Equal(second, before) {
				t.Fatalf("%s: two answers share memory", name)
			}
		}
	}
}

// TestBytesOfThemselves hands in one list as both, and pieces of one list.
func TestBytesOfThemselves(t *testing.T) { // P7.1
	p, same := roomy([]byte("abcdef"))
	if got := pack.Bytes(p, p); string(got) != "abcdef\x06abcdef" || !same() {
		t.Errorf("Bytes of one list: %q", got)
	}
	if got := pack.Bytes(p[:2], p[1:4]); string(got) != "ab\x03bcd" || !same() {
		t.Errorf("Bytes of two pieces: %q", got)
	}
}

// scribble writes over a list and its spare room.
func scribble(p []byte) {
	p = p[:cap(p)]
	for i := range p {
		p[i] ^= 0xff
	}
}
