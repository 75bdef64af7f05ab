package sum_test

import (
	"bytes"
	"crypto/sha256"
	"encoding/hex"
	"hash/crc32"
	"math/big"
	"math/rand"
	"strings"
	"testing"

	"passbook/sum"
)

func sha(text string) string {
	got := sum.Sha([]byte(text))
	return hex.EncodeToString(got[:])
}

// some gives bytes of all values; the same ones each time.
func some(count int) []byte {
	p := make([]byte, count)
	rand.New(rand.NewSource(int64(count))).Read(p)
	return p
}

// lengths: all up to some blocks, about their borders further on, and many.
func lengths() []int {
	var out []int
	for n := range 64*5 + 2 {
		out = append(out, n)
	}
	for _, n := range []int{4096, 65536, 1000000} {
		out = append(out, n-9, n-8, n-1, n, n+1)
	}
	return out
}

func checkAll(t *testing.T, p []byte) {
	t.Helper()
	if got, want := sum.Crc(p), crc32.ChecksumIEEE(p); got != want {
		t.Errorf("Crc of %d bytes = %08x, want %08x", len(p), got, want)
	}
	if got, want := sum.Sha(p), sha256.Sum256(p); got != want {
		t.Errorf("Sha of %d bytes = %x, want %x", len(p), got, want)
	}
	last := [32]byte(some(32))
	if got, want := sum.Chain(last, p), sha256.Sum256(append(bytes.Clone(last[:]), p...)); got != want {
		t.Errorf("Chain of %d bytes = %x, want %x", len(p), got, want)
	}
}

func TestCrcExamples(t *testing.T) { // P6.1
	for text, want := range map[string]uint32{
		"123456789": 0xcbf43926, "": 0, "\x00": 0xd202ef8d, "\xff": 0xff000000, "a": 0xe8b7be43, "\x00\x00\x00\x00": 0x2144df1c, "\xff\xff\xff\xff": 0xffffffff,
		"The quick brown fox jumps over the lazy dog": 0x414fa339,
	} {
		if got := sum.Crc([]byte(text)); got != want {
			t.Errorf("Crc(%q) = %08x, want %08x", text, got, want)
		}
	}
}

func TestShaExamples(t *testing.T) { // P6.1
	for text, want := range map[string]string{
		"":    "e3b0c44298fc1c149afbf4c8996fb92427ae41e4649b934ca495991b7852b855",
		"abc": "ba7816bf8f01cfea414140de5dae2223b00361a396177a9cb410ff61f20015ad",
		// 56 bytes: the first count for which a block of its own is laid behind.
		"abcdbcdecdefdefgefghfghighijhijkijkljklmklmnlmnomnopnopq": "248d6a61d20638b8e5c026930c3e6039a33ce45964ff2167f6ecedd419db06c1",
		strings.Repeat("a", 1000000):                               "cdc76e5c9914fb9281a1c7e284d73e67f1809a48a497200e046d39ccc7112cd0",
	} {
		if got := sha(text); got != want {
			t.Errorf("Sha of %d bytes = %s, want %s", len(text), got, want)
		}
	}
}

func TestSumsOfAllLengths(t *testing.T) { // P6.1
	for _, n := range lengths() {
		checkAll(t, some(n))
		checkAll(t, make([]byte, n))
		checkAll(t, bytes.Repeat([]byte{0xff}, n))
	}
}

func TestSumsOfAllBytes(t *testing.T) { // P6.1
	for b := range 256 {
		checkAll(t, []byte{byte(b)})
		checkAll(t, []byte{0, byte(b), 0})
		checkAll(t, bytes.Repeat([]byte{byte(b)}, 64))
	}
}

func TestChain(t *testing.T) { // P6.1
	var link [32]byte
	var want [32]byte
	for _, text := range []string{"x", "", "a payload", strings.Repeat("y", 4096)} {
		link = sum.Chain(link, []byte(text))
		want = sum.Sha(append(want[:], text...))
		if link != want {
			t.Fatalf("Chain = %x, want %x", link, want)
		}
	}
	a, b := sum.Chain([32]byte{}, nil), sum.Sha(make([]byte, 32))
	if a != b {
		t.Errorf("Chain of noughts and of nothing = %x, want %x", a, b)
	}
	// Each byte of what came ahead counts, at its own place.
	for i := range 32 {
		var last [32]byte
		last[i] = byte(i + 1)
		whole := append(bytes.Clone(last[:]), "next"...)
		if got, want := sum.Chain(last, []byte("next")), sha256.Sum256(whole); got != want {
			t.Errorf("Chain with byte %d = %x, want %x", i, got, want)
		}
	}
}

func TestNilAndEmpty(t *testing.T) { // P6.1
	last := [32]byte{1, 2, 3}
	if sum.Crc(nil) != sum.Crc([]byte{}) || sum.Sha(nil) != sum.Sha([]byte{}) || sum.Chain(last, nil) != sum.Chain(last, []byte{}) {
		t.Error("the sums of nil and of no bytes are unlike")
	}
}

// TestBytesAreLeft: what is handed in, and the room behind it, comes back as it was.
func TestBytesAreLeft(t *testing.T) { // P6.1, and the rules of memory
	for _, n := range []int{0, 1, 31, 32, 33, 55, 56, 63, 64, 65, 127, 128, 1000} {
		room := some(n + 200)
		was := bytes.Clone(room)
		p := room[:n]
		last := [32]byte(some(32))
		crc, hash, link := sum.Crc(p), sum.Sha(p), sum.Chain(last, p)
		if !bytes.Equal(room, was) {
			t.Fatalf("%d bytes, or the room behind them, have changed", n)
		}
		if last != [32]byte(some(32)) {
			t.Fatal("the last link has changed")
		}
		if crc != sum.Crc(p) || hash != sum.Sha(p) || link != sum.Chain(last, p) {
			t.Fatalf("asked again, the sums of %d bytes are unlike", n)
		}
	}
}

// wantRoots works the numbers out: the greatest whole number whose cube is not
// above the prime times 2^96 is the root's size in parts of 2^32.
func wantRoots() []uint32 {
	var out []uint32
	for p := int64(2); len(out) < 64; p++ {
		if !big.NewInt(p).ProbablyPrime(10) {
			continue
		}
		cube := new(big.Int).Lsh(big.NewInt(p), 96)
		root := new(big.Int)
		for bit := 40; bit >= 0; bit-- {
			more := new(big.Int).SetBit(root, bit, 1)
			if new(big.Int).Exp(more, big.NewInt(3), nil).Cmp(cube) <= 0 {
				root = more
			}
		}
		out = append(out, uint32(root.Uint64()))
	}
	return out
}

func TestRoots(t *testing.T) { // P6.1
	got := sum.Roots()
	for i, want := range wantRoots() {
		if got[i] != want {
			t.Errorf("k(%d) = %08x, want %08x", i, got[i], want)
		}
	}
	if got[0] != 0x428a2f98 || got[1] != 0x71374491 || got[63] != 0xc67178f2 {
		t.Errorf("Roots = %x", got)
	}
	// A caller may write over the answer.
	clear(got[:])
	if sum.Roots()[0] != 0x428a2f98 || sha("abc")[:8] != "ba7816bf" {
		t.Error("an answer of Roots is not its own memory")
	}
}
