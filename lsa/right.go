package lsa

import (
	"plenum/addr"
	"plenum/api"
)

// Right tells whether there may be such an advertisement, whatever its Sum and Len are.
func Right(l api.Lsa) bool {
	return rightHead(l.Head) && rightBody(l)
}

func rightHead(h api.Head) bool {
	return among(h.Age, 0, api.MaxAge) &&
		addr.Right(h.Id) && addr.Right(h.Adv) && h.Adv != 0 &&
		among(h.Seq, api.FirstSeq, api.LastSeq)
}

// rightBody asks for the Kind too: one that there is not has no right body.
func rightBody(l api.Lsa) bool {
	switch l.Head.Kind {
	case api.LsaRouter:
		return rightRouter(l) && noNetwork(l) && noGroup(l)
	case api.LsaNetwork:
		return noRouter(l) && rightNetwork(l) && noGroup(l)
	case api.LsaGroup:
		return noRouter(l) && noNetwork(l) && rightGroup(l)
	}
	return false
}

func rightRouter(l api.Lsa) bool {
	return among(l.Flags, 0, 255) && rightList(l.Links, rightLink)
}

func rightNetwork(l api.Lsa) bool {
	return among(l.Bits, 0, 32) && rightList(l.Routers, addr.Right)
}

func rightGroup(l api.Lsa) bool {
	return rightList(l.Verts, rightVert)
}

func noRouter(l api.Lsa) bool {
	return l.Flags == 0 && len(l.Links) == 0
}

func noNetwork(l api.Lsa) bool {
	return l.Bits == 0 && len(l.Routers) == 0
}

func noGroup(l api.Lsa) bool {
	return len(l.Verts) == 0
}

func rightList[T any](list []T, right func(T) bool) bool {
	if len(list) > api.MaxList {
		return false
	}
	for _, x := range list {
		if !right(x) {
			return false
		}
	}
	return true
}

func rightLink(k api.Link) bool {
	return among(k.Kind, api.LinkRouter, api.LinkStub) &&
		addr.Right(k.Id) && addr.Right(k.Data) && among(k.Cost, 0, 65535)
}

func rightVert(v api.Vert) bool {
	return among(v.Kind, api.VertRouter, api.VertNetwork) && addr.Right(v.Id)
}

// among tells whether n is from low to high.
func among(n, low, high int) bool {
	return low <= n && n <= high
}
