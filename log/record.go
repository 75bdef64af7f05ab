package log

import (
	"slices"

	"passbook/api"
	"passbook/parts"
)

const (
	mark       = 0xb1
	countPlace = 7 // of the byte in a sector that tells how many parts the record has
	crcBytes   = 4
	linkBytes  = 32
	behind     = crcBytes + linkBytes // bytes of a body that stand behind the payload
)

type link [linkBytes]byte

type record struct {
	payload []byte
	link    link
}

func (r record) sectors(number int64) []byte {
	crc := parts.Crc(r.payload)
	return parts.Cut(mark, slices.Concat(r.payload, crc[:], r.link[:]), head(number))
}

func head(number int64) parts.Head {
	n := uint32(number)
	return func(part, count int) [6]byte {
		return [6]byte{byte(n >> 24), byte(n >> 16), byte(n >> 8), byte(n), byte(part), byte(count)}
	}
}

// readFirst: the record of that number, if the sectors begin with it, whole but for its link, which only what came ahead of it can tell; and what stands behind it.
func readFirst(number int64, sectors []byte) (record, []byte, bool) {
	if len(sectors) == 0 {
		return record{}, nil, false
	}
	size := int(sectors[countPlace]) * api.Sector
	if size > len(sectors) {
		return record{}, nil, false
	}
	body, ok := parts.Join(mark, sectors[:size], head(number))
	if !ok || len(body) <= behind || len(body) > api.MaxBytes+behind {
		return record{}, nil, false
	}
	end := len(body) - behind
	r := record{payload: body[:end:end]}
	var crc [crcBytes]byte
	copy(crc[:], body[end:])
	copy(r.link[:], body[end+crcBytes:])
	if crc != parts.Crc(r.payload) {
		return record{}, nil, false
	}
	return r, sectors[size:], true
}
