package sum

import (
	"bytes"
	"testing"
)

// TestEndingCounts looks at the count of bits beyond what bytes in a test can reach.
func TestEndingCounts(t *testing.T) { // P6.1
	for count, want := range map[int][]byte{
		0:           {0, 0, 0, 0, 0, 0, 0, 0},
		3:           {0, 0, 0, 0, 0, 0, 0, 24},
		1<<29 + 3:   {0, 0, 0, 1, 0, 0, 0, 24},
		1<<31 - 1:   {0, 0, 0, 3, 0xff, 0xff, 0xff, 0xf8},
		0x123456789: {0, 0, 0, 9, 0x1a, 0x2b, 0x3c, 0x48},
	} {
		for left := range block {
			tail := ending(bytes.Repeat([]byte{7}, left), count)
			if len(tail)%block != 0 || left < 56 && len(tail) != block || left >= 56 && len(tail) != 2*block {
				t.Fatalf("behind %d bytes the ending is of %d", left, len(tail))
			}
			if got := tail[len(tail)-8:]; !bytes.Equal(got, want) {
				t.Errorf("the count of %d bytes = %x, want %x", count, got, want)
			}
			if middle := tail[left : len(tail)-8]; middle[0] != 0x80 || bytes.Count(middle, []byte{0}) != len(middle)-1 {
				t.Errorf("behind %d bytes stand %x", left, middle)
			}
		}
	}
}
