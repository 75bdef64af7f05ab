package bank

import (
	"passbook/api"
	"passbook/event"
	"passbook/pack"
)

// restore: the snapshot's events happen. Where there is no snapshot, its number is 0, and it has no bytes.
func (b *Bank) restore(number int64, payload []byte) bool {
	events, ok := cut(payload)
	return ok && int64(len(events)) == number && b.allHappen(events)
}

// catchUp: those of the log's records happen that the snapshot doesn't have.
func (b *Bank) catchUp(number int64, records [][]byte) bool {
	first := b.log.First()
	if first > number+1 || b.log.Next() <= number {
		return false
	}
	return b.allHappen(records[number+1-first:])
}

func (b *Bank) allHappen(events [][]byte) bool {
	for _, p := range events {
		if !b.happen(p) {
			return false
		}
	}
	return true
}

// happen: the event of these bytes. A command's goes the same way as one that is read from the disk, so that a bank that is opened again is the same.
func (b *Bank) happen(p []byte) bool {
	e, wrong := event.Read(p)
	if wrong != api.OK || b.model.Apply(e) != api.OK {
		return false
	}
	b.story = append(b.story, pack.Bytes(nil, p)...)
	return true
}

// cut: the events' bytes, of a snapshot's payload.
func cut(payload []byte) ([][]byte, bool) {
	var events [][]byte
	for len(payload) > 0 {
		p, size, e := pack.ReadBytes(payload, api.MaxBytes)
		if e != api.OK {
			return nil, false
		}
		events = append(events, p)
		payload = payload[size:]
	}
	return events, true
}
