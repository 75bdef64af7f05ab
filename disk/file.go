package disk

import (
	"iter"
	"slices"

	"passbook/api"
)

type sector [api.Sector]byte

// file: its synced sectors are always the first ones, for what is appended stands behind, and what syncs, syncs all.
type file struct {
	sectors []sector
	synced  int
}

func isName(name string) bool {
	if len(name) < 1 || len(name) > api.MaxName {
		return false
	}
	for i := range len(name) {
		c := name[i]
		if !(c >= 'a' && c <= 'z' || c >= '0' && c <= '9') {
			return false
		}
	}
	return true
}

// needed: how many sectors the bytes fill, the last one in part.
func needed(p []byte) int {
	n := len(p) / api.Sector
	if len(p)%api.Sector > 0 {
		n++
	}
	return n
}

// cut: the bytes as sectors, with 00 behind them in the last one.
func cut(p []byte) iter.Seq[sector] {
	return func(yield func(sector) bool) {
		for part := range slices.Chunk(p, api.Sector) {
			var s sector
			copy(s[:], part)
			if !yield(s) {
				return
			}
		}
	}
}

func (f *file) bytes() []byte {
	p := make([]byte, 0, len(f.sectors)*api.Sector)
	for _, s := range f.sectors {
		p = append(p, s[:]...)
	}
	return p
}

func (f *file) cutTo(n int) {
	if n < len(f.sectors) {
		f.sectors = slices.Clone(f.sectors[:n]) // so that what is cut off is not held
	}
	f.synced = len(f.sectors)
}
