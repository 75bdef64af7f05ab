// Package parts is what the log and the snapshots have in common: bodies that are cut into sectors, and files that are named by a letter and a number.
package parts

import (
	"bytes"
	"slices"

	"passbook/api"
	"passbook/sum"
)

const (
	ahead  = 8 // bytes of a sector that stand ahead of the part's own
	inPart = api.Sector - ahead
)

// Head: what a sector tells of its part behind the mark and the length, given the part's number and how many parts there are.
type Head func(part, count int) [6]byte

// Cut: the body as sectors, a part in each.
func Cut(mark byte, body []byte, head Head) []byte {
	count := (len(body) + inPart - 1) / inPart
	sectors := make([]byte, 0, count*api.Sector)
	part := 0
	for piece := range slices.Chunk(body, inPart) {
		var s [api.Sector]byte
		s[0], s[1] = mark, byte(len(piece))
		told := head(part, count)
		copy(s[2:ahead], told[:])
		copy(s[ahead:], piece)
		sectors = append(sectors, s[:]...)
		part++
	}
	return sectors
}

// Join: the body whose sectors these are, and whether they are just those that Cut makes of it.
func Join(mark byte, sectors []byte, head Head) ([]byte, bool) {
	body := make([]byte, 0, len(sectors)/api.Sector*inPart)
	for s := range slices.Chunk(sectors, api.Sector) {
		if len(s) < api.Sector {
			return nil, false
		}
		size := min(int(s[1]), inPart)
		body = append(body, s[ahead:ahead+size]...)
	}
	if len(body) == 0 || !bytes.Equal(Cut(mark, body, head), sectors) {
		return nil, false
	}
	return body, true
}

// Crc: the four bytes of the sum, the highest first.
func Crc(p []byte) [4]byte {
	c := sum.Crc(p)
	return [4]byte{byte(c >> 24), byte(c >> 16), byte(c >> 8), byte(c)}
}
