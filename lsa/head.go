package lsa

import (
	"plenum/api"
	"plenum/wire"
)

// Places in a head.
const (
	noughtAt = 2 // the first behind the Age
	kindAt   = 3
	idAt     = 4
	advAt    = 8
	seqAt    = 12
	sumAt    = 16
	lenAt    = 18
	headLen  = 20
)

// KeyOf is what the instances of one advertisement have in common.
func KeyOf(h api.Head) api.Key {
	return api.Key{Kind: h.Kind, Id: h.Id, Adv: h.Adv}
}

// PutHead tells a head as bytes, each number by its low bits.
func PutHead(h api.Head) []byte {
	b := wire.Append(nil, h.Age, 2)
	b = append(b, 0, byte(h.Kind))
	b = wire.Append(b, h.Id, 4)
	b = wire.Append(b, h.Adv, 4)
	b = wire.Append(b, h.Seq, 4)
	b = wire.Append(b, h.Sum, 2)
	return wire.Append(b, h.Len, 2)
}

// GetHead is the head at a place; its numbers need not be right.
func GetHead(b []byte, at int) (api.Head, bool) {
	b = from(b, at)
	if len(b) < headLen || b[noughtAt] != 0 {
		return api.Head{}, false
	}
	return readHead(b), true
}

// from is what stands from a place on; of no place it is nothing.
func from(b []byte, at int) []byte {
	if at < 0 || at > len(b) {
		return nil
	}
	return b[at:]
}

// readHead passes over the byte behind the Age: Get asks for the Kind first.
func readHead(b []byte) api.Head {
	return api.Head{
		Age:  wire.Number(b[:noughtAt]),
		Kind: int(b[kindAt]),
		Id:   wire.Number(b[idAt:advAt]),
		Adv:  wire.Number(b[advAt:seqAt]),
		Seq:  int(int32(wire.Number(b[seqAt:sumAt]))),
		Sum:  wire.Number(b[sumAt:lenAt]),
		Len:  wire.Number(b[lenAt:headLen]),
	}
}
