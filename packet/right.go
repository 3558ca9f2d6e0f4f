package packet

import (
	"plenum/addr"
	"plenum/api"
	"plenum/lsa"
)

// Right tells whether there may be such a packet. Each part is asked for
// whatever the Kind: what is zero, or empty, is right.
func Right(p api.Packet) bool {
	return addr.Right(p.Router) && p.Router != 0 &&
		rightHello(p) && rightDesc(p) && rightLists(p) && noOther(p)
}

func rightHello(p api.Packet) bool {
	return among(p.Bits, 0, 32) && among(p.Prio, 0, 255) &&
		addr.Right(p.Dr) && addr.Right(p.Bdr)
}

func rightDesc(p api.Packet) bool {
	return among(p.Flags, 0, api.FlagMaster|api.FlagMore|api.FlagInit) &&
		among(p.Seq, 0, 1<<32-1)
}

func rightLists(p api.Packet) bool {
	return rightList(p.Seen, api.MaxList, addr.Right) &&
		rightList(p.Heads, api.MaxHeads, rightHead) &&
		rightList(p.Keys, api.MaxKeys, rightKey) &&
		rightList(p.Lsas, api.MaxLsas, rightLsa)
}

func rightList[T any](list []T, most int, right func(T) bool) bool {
	if len(list) > most {
		return false
	}
	for _, x := range list {
		if !right(x) {
			return false
		}
	}
	return true
}

// rightHead asks layer 5 of the head with an empty body, which is right of every Kind.
func rightHead(h api.Head) bool {
	return lsa.Right(api.Lsa{Head: h}) && among(h.Sum, 0, 65535) && among(h.Len, 0, 65535)
}

func rightKey(k api.Key) bool {
	return rightHead(api.Head{Kind: k.Kind, Id: k.Id, Adv: k.Adv})
}

// rightLsa asks Put, as it tells what is right and sealed alone.
func rightLsa(l api.Lsa) bool {
	_, e := lsa.Put(l)
	return e == api.OK
}

// noOther tells whether p has nothing but what is of its Kind, one of the five.
func noOther(p api.Packet) bool {
	switch p.Kind {
	case api.PackHello:
		p.Bits, p.Prio, p.Dr, p.Bdr, p.Seen = 0, 0, 0, 0, nil
	case api.PackDesc:
		p.Flags, p.Seq = 0, 0
		fallthrough
	case api.PackAck:
		p.Heads = nil
	case api.PackAsk:
		p.Keys = nil
	case api.PackUpdate:
		p.Lsas = nil
	default:
		return false
	}
	return empty(p)
}

func empty(p api.Packet) bool {
	return p.Bits == 0 && p.Prio == 0 && p.Dr == 0 && p.Bdr == 0 && len(p.Seen) == 0 &&
		p.Flags == 0 && p.Seq == 0 && len(p.Heads) == 0 &&
		len(p.Keys) == 0 && len(p.Lsas) == 0
}

// among tells whether n is from low to high.
func among(n, low, high int) bool {
	return low <= n && n <= high
}
