package lsa

import (
	"slices"

	"plenum/addr"
	"plenum/api"
	"plenum/wire"
	"plenum/wrap"
)

const (
	fixedLen  = 4 // of a router's and of a network's body, ahead of the list
	linkLen   = 12
	routerLen = 4
	vertLen   = 8
)

// Body tells whether two advertisements say the same of the same Kind.
func Body(a, b api.Lsa) bool {
	return a.Head.Kind == b.Head.Kind &&
		a.Flags == b.Flags && slices.Equal(a.Links, b.Links) &&
		a.Bits == b.Bits && slices.Equal(a.Routers, b.Routers) &&
		slices.Equal(a.Verts, b.Verts)
}

// appendBody appends the bytes of l's body to b.
func appendBody(b []byte, l api.Lsa) []byte {
	switch l.Head.Kind {
	case api.LsaRouter:
		b = append(b, byte(l.Flags), 0)
		b = wire.Append(b, len(l.Links), 2)
		for _, k := range l.Links {
			b = appendLink(b, k)
		}
	case api.LsaNetwork:
		b = wire.Append(b, addr.Mask(l.Bits), fixedLen)
		for _, r := range l.Routers {
			b = wire.Append(b, r, routerLen)
		}
	case api.LsaGroup:
		for _, v := range l.Verts {
			b = wire.Append(b, v.Kind, 4)
			b = wire.Append(b, v.Id, 4)
		}
	}
	return b
}

func appendLink(b []byte, k api.Link) []byte {
	b = wire.Append(b, k.Id, 4)
	b = wire.Append(b, k.Data, 4)
	b = append(b, byte(k.Kind), 0)
	return wire.Append(b, k.Cost, 2)
}

// readBody takes from b the body of an advertisement with that head. It takes
// it freely, without the noughts, the count of links and what is left behind
// the list: whoever asks holds appendBody's bytes against b.
func readBody(h api.Head, b []byte) (api.Lsa, error) {
	l := api.Lsa{Head: h}
	switch h.Kind {
	case api.LsaRouter:
		if len(b) < fixedLen {
			return l, wrap.Part("flags", errForm)
		}
		l.Flags = int(b[0])
		l.Links = wire.List(b[fixedLen:], linkLen, readLink)
	case api.LsaNetwork:
		if len(b) < fixedLen {
			return l, wrap.Part("mask", errForm)
		}
		l.Bits = addr.Bits(wire.Number(b[:fixedLen]))
		l.Routers = wire.List(b[fixedLen:], routerLen, wire.Number)
	case api.LsaGroup:
		l.Verts = wire.List(b, vertLen, readVert)
	default:
		return l, wrap.Part("kind", errKind)
	}
	return l, nil
}

func readLink(b []byte) api.Link {
	return api.Link{
		Id:   wire.Number(b[:4]),
		Data: wire.Number(b[4:8]),
		Kind: int(b[8]),
		Cost: wire.Number(b[10:]),
	}
}

func readVert(b []byte) api.Vert {
	return api.Vert{Kind: wire.Number(b[:4]), Id: wire.Number(b[4:])}
}
