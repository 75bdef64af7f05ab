package parts_test

import (
	"bytes"
	"slices"
	"strings"
	"testing"

	"passbook/parts"
)

func head(part, count int) [6]byte { return [6]byte{1, 2, 3, byte(part), byte(count), 9} }

func TestCut(t *testing.T) { // P10.2, P11.1
	body := []byte(strings.Repeat("x", 24) + "yz")
	want := "\xee\x18\x01\x02\x03\x00\x02\x09" + strings.Repeat("x", 24) + "\xee\x02\x01\x02\x03\x01\x02\x09yz" + strings.Repeat("\x00", 22)
	if got := parts.Cut(0xee, body, head); string(got) != want {
		t.Errorf("Cut = %q, want %q", got, want)
	}
	if got := parts.Cut(0xee, nil, head); len(got) != 0 {
		t.Errorf("Cut of nothing = %q", got)
	}
}

func TestJoin(t *testing.T) { // P10.1, P11.2
	for size := 1; size <= 100; size++ {
		body := bytes.Repeat([]byte{7}, size)
		sectors := parts.Cut(0xee, body, head)
		if got, ok := parts.Join(0xee, sectors, head); !ok || !bytes.Equal(got, body) {
			t.Fatalf("Join of %d bytes = %q, %t", size, got, ok)
		}
		for _, wrong := range [][]byte{sectors[:len(sectors)-1], sectors[1:], append(slices.Clone(sectors), 0), append(slices.Clone(sectors), make([]byte, 32)...)} {
			if got, ok := parts.Join(0xee, wrong, head); ok || len(got) != 0 {
				t.Fatalf("Join of wrong sectors = %q, %t", got, ok)
			}
		}
		if _, ok := parts.Join(0xef, sectors, head); ok {
			t.Fatal("Join takes another mark")
		}
	}
	if got, ok := parts.Join(0xee, nil, head); ok || len(got) != 0 {
		t.Errorf("Join of nothing = %q, %t", got, ok)
	}
}

func TestCrc(t *testing.T) { // P10.2, P11.1
	if got := parts.Crc([]byte("123456789")); got != [4]byte{0xcb, 0xf4, 0x39, 0x26} {
		t.Errorf("Crc = %x", got)
	}
}

func TestNames(t *testing.T) { // P10.1, P11.2
	for n, want := range map[int64]string{0: "q000", 7: "q007", 10: "q010", 999: "q999"} {
		if got := parts.Name("q", 3, n); got != want {
			t.Errorf("Name(%d) = %q, want %q", n, got, want)
		}
		if got := parts.Numbers("q", 3, []string{"q", want, "q00", "r000", "q00a", "q0000", "q0/0", "q0:0", "", want}); !slices.Equal(got, []int64{n, n}) {
			t.Errorf("Numbers = %d, want %d twice", got, n)
		}
	}
}
