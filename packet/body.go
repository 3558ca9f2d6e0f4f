package packet

import (
	"plenum/addr"
	"plenum/api"
	"plenum/lsa"
	"plenum/wire"
	"plenum/wrap"
)

// Places in the fixed part of a PackHello, and of a PackDesc.
const (
	ticksAt = 4
	prioAt  = 7
	drAt    = 12
	bdrAt   = 16

	flagsAt = 3
	seqAt   = 4
)

// shape is how many bytes a Kind's body has ahead of its parts, and how many
// each part has; of a Kind that there is not both are 0. Advertisements tell
// their own lengths, so here those of a PackUpdate are just bytes.
func shape(kind int) (fixed, part int) {
	switch kind {
	case api.PackHello:
		return 20, 4
	case api.PackDesc:
		return 8, 20
	case api.PackAsk:
		return 0, 12
	case api.PackUpdate:
		return 4, 1
	case api.PackAck:
		return 0, 20
	}
	return 0, 0
}

// appendBody appends the bytes of p's body to b.
func appendBody(b []byte, p api.Packet) []byte {
	switch p.Kind {
	case api.PackHello:
		b = appendHello(b, p)
	case api.PackDesc:
		b = append(b, 0, 0, 0, byte(p.Flags))
		b = wire.Append(b, p.Seq, 4)
		fallthrough
	case api.PackAck:
		for _, h := range p.Heads {
			b = append(b, lsa.PutHead(h)...)
		}
	case api.PackAsk:
		for _, k := range p.Keys {
			b = appendKey(b, k)
		}
	case api.PackUpdate:
		b = wire.Append(b, len(p.Lsas), 4)
		for _, l := range p.Lsas {
			told, _ := lsa.Put(l)
			b = append(b, told...)
		}
	}
	return b
}

func appendHello(b []byte, p api.Packet) []byte {
	b = wire.Append(b, addr.Mask(p.Bits), 4)
	b = wire.Append(b, api.HelloTicks, 2)
	b = append(b, 0, byte(p.Prio))
	b = wire.Append(b, api.DeadTicks, 4)
	b = wire.Append(b, p.Dr, 4)
	b = wire.Append(b, p.Bdr, 4)
	for _, a := range p.Seen {
		b = wire.Append(b, a, 4)
	}
	return b
}

func appendKey(b []byte, k api.Key) []byte {
	b = wire.Append(b, k.Kind, 4)
	b = wire.Append(b, k.Id, 4)
	return wire.Append(b, k.Adv, 4)
}

// readBody takes from b the body of a packet of that Kind. It takes it freely,
// without the noughts, the ticks and what is left behind the advertisements:
// whoever asks holds appendBody's bytes against b.
func readBody(kind int, b []byte) (api.Packet, error) {
	p := api.Packet{Kind: kind}
	fixed, part := shape(kind)
	if part == 0 {
		return p, wrap.Part("kind", wrap.Fault(api.ErrKind))
	}
	if len(b) < fixed || (len(b)-fixed)%part != 0 {
		return p, wrap.Fault(api.ErrShort)
	}
	front, parts := b[:fixed], b[fixed:]
	var err error
	switch kind {
	case api.PackHello:
		p = readHello(front)
		p.Seen = wire.List(parts, part, wire.Number)
	case api.PackDesc:
		p.Flags, p.Seq = int(front[flagsAt]), wire.Number(front[seqAt:])
		fallthrough
	case api.PackAck:
		p.Heads = wire.List(parts, part, readHead)
	case api.PackAsk:
		p.Keys = wire.List(parts, part, readKey)
	case api.PackUpdate:
		p.Lsas, err = readLsas(wire.Number(front), parts)
	}
	return p, err
}

func readHello(b []byte) api.Packet {
	return api.Packet{
		Kind: api.PackHello,
		Bits: addr.Bits(wire.Number(b[:ticksAt])),
		Prio: int(b[prioAt]),
		Dr:   wire.Number(b[drAt:bdrAt]),
		Bdr:  wire.Number(b[bdrAt:]),
	}
}

// readHead is the zero head, which is not right, where layer 5 tells none.
func readHead(b []byte) api.Head {
	h, _ := lsa.GetHead(b, 0)
	return h
}

func readKey(b []byte) api.Key {
	return api.Key{
		Kind: wire.Number(b[:4]),
		Id:   wire.Number(b[4:8]),
		Adv:  wire.Number(b[8:]),
	}
}

// readLsas takes as many as are counted, each from where the last one ends.
func readLsas(count int, b []byte) ([]api.Lsa, error) {
	if count > api.MaxLsas {
		return nil, wrap.Part("count", wrap.Fault(api.ErrForm))
	}
	var list []api.Lsa
	at := 0
	for range count {
		l, next, e := lsa.Get(b, at)
		if e != api.OK {
			return nil, wrap.Part("advertisement", wrap.Fault(e))
		}
		list = append(list, l)
		at = next
	}
	return list, nil
}
