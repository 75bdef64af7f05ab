package snap

import (
	"slices"

	"passbook/parts"
)

const (
	mark     = 0xb2
	crcBytes = 4
)

func sectors(p []byte) []byte {
	crc := parts.Crc(p)
	return parts.Cut(mark, slices.Concat(p, crc[:]), head)
}

func head(part, count int) [6]byte {
	return [6]byte{byte(part >> 8), byte(part), byte(count >> 8), byte(count)}
}

// payload: of a file that is whole.
func payload(sectors []byte) ([]byte, bool) {
	body, ok := parts.Join(mark, sectors, head)
	if !ok || len(body) <= crcBytes || len(body) > maxPayload+crcBytes {
		return nil, false
	}
	end := len(body) - crcBytes
	p := body[:end:end]
	var crc [crcBytes]byte
	copy(crc[:], body[end:])
	if crc != parts.Crc(p) {
		return nil, false
	}
	return p, true
}
