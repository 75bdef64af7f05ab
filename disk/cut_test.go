package disk

import "testing"

// TestCutStops looks whether who goes through the sectors may leave off, and begin again.
func TestCutStops(t *testing.T) { // P9.1
	sectors := cut(make([]byte, 100))
	for range 2 {
		count := 0
		for range sectors {
			count++
			if count == 2 {
				break
			}
		}
		if count != 2 {
			t.Fatalf("%d sectors ahead of the break", count)
		}
	}
	count := 0
	for range sectors {
		count++
	}
	if count != 4 {
		t.Fatalf("%d sectors, want 4", count)
	}
}
