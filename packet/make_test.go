package packet

import (
	"bytes"
	"encoding/binary"
	"math"
	"slices"

	"plenum/api"
	"plenum/lsa"
)

// Ordinary advertisements, one of each Kind, and sealed.

func routerLsa() api.Lsa {
	return lsa.Seal(api.Lsa{
		Head:  api.Head{Age: 7, Kind: api.LsaRouter, Id: 0x01020304, Adv: 0x01020304, Seq: api.FirstSeq},
		Flags: api.Wild,
		Links: []api.Link{
			{Kind: api.LinkRouter, Id: 9, Data: 0x0a000001, Cost: 300},
			{Kind: api.LinkStub, Id: 0x0a000200, Data: 0xffffff00, Cost: 1},
		},
	})
}

func networkLsa() api.Lsa {
	return lsa.Seal(api.Lsa{
		Head:    api.Head{Age: 3, Kind: api.LsaNetwork, Id: 0x0a000001, Adv: 5, Seq: -2},
		Bits:    24,
		Routers: []int{5, 6, 0xfffffffe},
	})
}

func groupLsa() api.Lsa {
	return lsa.Seal(api.Lsa{
		Head:  api.Head{Kind: api.LsaGroup, Id: 0xe0010203, Adv: 5, Seq: 3},
		Verts: []api.Vert{{Kind: api.VertRouter, Id: 5}, {Kind: api.VertNetwork, Id: 0x0a000001}},
	})
}

// bareLsa has no body at all.
func bareLsa() api.Lsa {
	return lsa.Seal(api.Lsa{Head: api.Head{Kind: api.LsaGroup, Id: 0xe0010204, Adv: 6, Seq: 4}})
}

func fourLsas() []api.Lsa {
	return []api.Lsa{routerLsa(), networkLsa(), groupLsa(), bareLsa()}
}

// Ordinary packets, one of each Kind.

func hello() api.Packet {
	return api.Packet{Kind: api.PackHello, Router: 0x01020304, Bits: 24, Prio: 3, Dr: 0x0a000001, Bdr: 0x0a000002, Seen: []int{5, 6, 0xfffffffe}}
}

func desc() api.Packet {
	return api.Packet{
		Kind: api.PackDesc, Router: 7, Flags: api.FlagMore | api.FlagMaster, Seq: 0x80000001,
		Heads: []api.Head{routerLsa().Head, networkLsa().Head},
	}
}

func ask() api.Packet {
	return api.Packet{Kind: api.PackAsk, Router: 8, Keys: []api.Key{
		{Kind: api.LsaRouter, Id: 5, Adv: 6}, {Kind: api.LsaNetwork, Id: 0x0a000001, Adv: 7}, {Kind: api.LsaGroup, Id: 0xe0010203, Adv: 0xfffffffe},
	}}
}

func update() api.Packet {
	return api.Packet{Kind: api.PackUpdate, Router: 9, Lsas: fourLsas()[:3]}
}

func ack() api.Packet {
	return api.Packet{Kind: api.PackAck, Router: 10, Heads: []api.Head{groupLsa().Head, routerLsa().Head, networkLsa().Head}}
}

func ordinary() []api.Packet {
	return []api.Packet{hello(), desc(), ask(), update(), ack()}
}

// bare is a packet of that Kind with nothing in it.
func bare(kind int) api.Packet {
	return api.Packet{Kind: kind, Router: 9}
}

// with is p turned by f; what f turns of its lists is not seen elsewhere.
func with(p api.Packet, f func(*api.Packet)) api.Packet {
	p = clone(p)
	f(&p)
	return p
}

func clone(p api.Packet) api.Packet {
	p.Seen, p.Heads, p.Keys, p.Lsas = slices.Clone(p.Seen), slices.Clone(p.Heads), slices.Clone(p.Keys), slices.Clone(p.Lsas)
	for i := range p.Lsas {
		l := &p.Lsas[i]
		l.Links, l.Routers, l.Verts = slices.Clone(l.Links), slices.Clone(l.Routers), slices.Clone(l.Verts)
	}
	return p
}

// same holds two against each other; a nil list and an empty one are one.
func same(a, b api.Packet) bool {
	return a.Kind == b.Kind && a.Router == b.Router &&
		a.Bits == b.Bits && a.Prio == b.Prio && a.Dr == b.Dr && a.Bdr == b.Bdr && slices.Equal(a.Seen, b.Seen) &&
		a.Flags == b.Flags && a.Seq == b.Seq && slices.Equal(a.Heads, b.Heads) &&
		slices.Equal(a.Keys, b.Keys) && slices.EqualFunc(a.Lsas, b.Lsas, sameLsa)
}

func sameLsa(a, b api.Lsa) bool {
	return a.Head == b.Head && lsa.Body(a, b)
}

func many[T any](n int, x T) []T {
	return slices.Repeat([]T{x}, n)
}

// rights are right packets: ordinary ones, and each part at its ends.
func rights() []api.Packet {
	all := ordinary()
	for _, p := range ordinary() {
		all = append(all, bare(p.Kind), api.Packet{
			Kind: p.Kind, Router: 9,
			Seen: []int{}, Heads: []api.Head{}, Keys: []api.Key{}, Lsas: []api.Lsa{},
		})
		for _, r := range []int{1, 255, 256, 1 << 31, 1<<32 - 1} {
			all = append(all, with(p, func(p *api.Packet) { p.Router = r }))
		}
	}
	all = append(all, rightHellos()...)
	all = append(all, rightDescs()...)
	for _, h := range rightHeads() {
		for _, n := range []int{1, 2, api.MaxHeads} {
			all = append(all, with(desc(), func(p *api.Packet) { p.Heads = many(n, h) }), with(ack(), func(p *api.Packet) { p.Heads = many(n, h) }))
		}
		for _, n := range []int{1, 2, api.MaxKeys} {
			all = append(all, with(ask(), func(p *api.Packet) { p.Keys = many(n, lsa.KeyOf(h)) }))
		}
	}
	return append(all, rightUpdates()...)
}

func rightHellos() []api.Packet {
	var all []api.Packet
	for bits := range 33 {
		all = append(all, with(hello(), func(p *api.Packet) { p.Bits = bits }))
	}
	for prio := range 256 {
		all = append(all, with(hello(), func(p *api.Packet) { p.Prio = prio }))
	}
	for _, a := range []int{0, 1, 1 << 31, 1<<32 - 1} {
		all = append(all,
			with(hello(), func(p *api.Packet) { p.Dr = a }),
			with(hello(), func(p *api.Packet) { p.Bdr = a }),
		)
		for _, n := range []int{1, 2, 63, api.MaxList} {
			all = append(all, with(hello(), func(p *api.Packet) { p.Seen = many(n, a) }))
		}
	}
	return all
}

func rightDescs() []api.Packet {
	var all []api.Packet
	for flags := range 8 {
		all = append(all, with(desc(), func(p *api.Packet) { p.Flags = flags }))
	}
	for _, seq := range []int{0, 1, 1<<31 - 1, 1 << 31, 1<<32 - 1} {
		all = append(all, with(desc(), func(p *api.Packet) { p.Seq = seq }))
	}
	return all
}

// rightHeads are right heads, each number at its ends.
func rightHeads() []api.Head {
	var all []api.Head
	for _, kind := range []int{api.LsaRouter, api.LsaNetwork, api.LsaGroup} {
		all = append(all, api.Head{Kind: kind, Adv: 1}, api.Head{Age: 5, Kind: kind, Id: 6, Adv: 7, Seq: 8, Sum: 9, Len: 10})
	}
	for _, f := range []func(*api.Head){
		func(h *api.Head) { h.Age = api.MaxAge },
		func(h *api.Head) { h.Id = 1<<32 - 1 },
		func(h *api.Head) { h.Adv = 1<<32 - 1 },
		func(h *api.Head) { h.Seq = api.FirstSeq },
		func(h *api.Head) { h.Seq = -1 },
		func(h *api.Head) { h.Seq = api.LastSeq },
		func(h *api.Head) { h.Sum = 65535 },
		func(h *api.Head) { h.Len = 65535 },
	} {
		h := api.Head{Kind: api.LsaNetwork, Adv: 1}
		f(&h)
		all = append(all, h)
	}
	return all
}

func rightUpdates() []api.Packet {
	var all []api.Packet
	for n := range api.MaxLsas + 1 {
		all = append(all, with(update(), func(p *api.Packet) { p.Lsas = fourLsas()[:n] }))
	}
	longest := routerLsa()
	longest.Links = many(api.MaxList, longest.Links[0])
	oldest := groupLsa()
	oldest.Head.Age = api.MaxAge
	for _, l := range append(fourLsas(), lsa.Seal(longest), lsa.Seal(oldest)) {
		for n := range api.MaxLsas + 1 {
			all = append(all, with(update(), func(p *api.Packet) { p.Lsas = many(n, l) }))
		}
	}
	return all
}

// strangers are numbers that are no address.
func strangers() []int {
	return []int{-1, 1 << 32, 1<<32 + 5, -1<<32 + 5, math.MinInt, math.MaxInt}
}

// wrongs are packets with one thing that is not right.
func wrongs() []api.Packet {
	var all []api.Packet
	for _, p := range ordinary() {
		for _, n := range []int{0, -1, 6, 7, 255, 256 + p.Kind, 1<<32 + p.Kind, math.MinInt, math.MaxInt} {
			all = append(all, with(p, func(p *api.Packet) { p.Kind = n }), bare(n))
		}
		for _, n := range append(strangers(), 0) {
			all = append(all, with(p, func(p *api.Packet) { p.Router = n }), api.Packet{Kind: p.Kind, Router: n})
		}
	}
	all = append(all, wrongHellos()...)
	all = append(all, wrongDescs()...)
	all = append(all, wrongLists()...)
	return append(all, notOfItsKind()...)
}

func wrongHellos() []api.Packet {
	var all []api.Packet
	for _, n := range []int{-1, 33, 64, 1 << 32, math.MinInt, math.MaxInt} {
		all = append(all, with(hello(), func(p *api.Packet) { p.Bits = n }))
	}
	for _, n := range []int{-1, 256, 1<<32 + 3, math.MinInt, math.MaxInt} {
		all = append(all, with(hello(), func(p *api.Packet) { p.Prio = n }))
	}
	for _, n := range strangers() {
		all = append(all,
			with(hello(), func(p *api.Packet) { p.Dr = n }),
			with(hello(), func(p *api.Packet) { p.Bdr = n }),
		)
		for i := range hello().Seen {
			all = append(all, with(hello(), func(p *api.Packet) { p.Seen[i] = n }))
		}
	}
	for _, n := range []int{api.MaxList + 1, 1000} {
		all = append(all, with(hello(), func(p *api.Packet) { p.Seen = many(n, 5) }))
	}
	return all
}

func wrongDescs() []api.Packet {
	var all []api.Packet
	for _, n := range []int{-1, 8, 9, 255, 256, 1<<32 + 7, math.MinInt, math.MaxInt} {
		all = append(all, with(desc(), func(p *api.Packet) { p.Flags = n }))
	}
	for _, n := range []int{-1, 1 << 32, 1<<32 + 1, math.MinInt, math.MaxInt} {
		all = append(all, with(desc(), func(p *api.Packet) { p.Seq = n }))
	}
	return all
}

// wrongHeads are heads with one number that is not right.
func wrongHeads() []api.Head {
	var all []api.Head
	turn := func(numbers []int, f func(*api.Head, int)) {
		for _, n := range numbers {
			h := groupLsa().Head
			f(&h, n)
			all = append(all, h)
		}
	}
	turn([]int{0, -1, 3, 4, 5, 7, 255, 256 + api.LsaGroup, math.MinInt, math.MaxInt}, func(h *api.Head, n int) { h.Kind = n })
	turn([]int{-1, api.MaxAge + 1, 65535, 65536, math.MinInt, math.MaxInt}, func(h *api.Head, n int) { h.Age = n })
	turn(strangers(), func(h *api.Head, n int) { h.Id = n })
	turn(append(strangers(), 0), func(h *api.Head, n int) { h.Adv = n })
	turn([]int{api.FirstSeq - 1, api.FirstSeq - 2, api.LastSeq + 1, 1<<32 - 1, math.MinInt, math.MaxInt}, func(h *api.Head, n int) { h.Seq = n })
	turn([]int{-1, 65536, 1 << 32, math.MinInt, math.MaxInt}, func(h *api.Head, n int) { h.Sum = n })
	turn([]int{-1, 65536, 1 << 32, math.MinInt, math.MaxInt}, func(h *api.Head, n int) { h.Len = n })
	return all
}

// wrongKeys are keys with one number that is not right.
func wrongKeys() []api.Key {
	var all []api.Key
	for _, n := range []int{0, -1, 3, 4, 5, 7, 255, 256 + api.LsaGroup, 1<<32 + api.LsaGroup, math.MinInt, math.MaxInt} {
		all = append(all, api.Key{Kind: n, Id: 5, Adv: 6})
	}
	for _, n := range strangers() {
		all = append(all, api.Key{Kind: api.LsaGroup, Id: n, Adv: 6}, api.Key{Kind: api.LsaGroup, Id: 5, Adv: n})
	}
	return append(all, api.Key{Kind: api.LsaGroup, Id: 5, Adv: 0})
}

// wrongLsas are advertisements that are not right, or not sealed.
func wrongLsas() []api.Lsa {
	all := []api.Lsa{{}}
	for _, l := range fourLsas() {
		for _, f := range []func(*api.Lsa){
			func(l *api.Lsa) { l.Head.Sum, l.Head.Len = 0, 0 },
			func(l *api.Lsa) { l.Head.Sum ^= 1 },
			func(l *api.Lsa) { l.Head.Sum += 1 << 16 },
			func(l *api.Lsa) { l.Head.Len++ },
			func(l *api.Lsa) { l.Head.Len += 1 << 16 },
			func(l *api.Lsa) { l.Head.Id ^= 1 },
			func(l *api.Lsa) { l.Head.Kind = 3 },
			func(l *api.Lsa) { l.Head.Age = api.MaxAge + 1 },
			func(l *api.Lsa) { l.Head.Adv = 0 },
			func(l *api.Lsa) { l.Flags = 256 },
			func(l *api.Lsa) { l.Bits = 33 },
			func(l *api.Lsa) { l.Links, l.Routers = many(2, api.Link{Kind: 1}), []int{1} },
			func(l *api.Lsa) { l.Verts = many(api.MaxList+1, api.Vert{Kind: 1}) },
		} {
			l := l
			f(&l)
			all = append(all, l)
		}
	}
	return all
}

// wrongLists have one thing that is wrong, at each place, or are one too long.
func wrongLists() []api.Packet {
	all := []api.Packet{
		with(desc(), func(p *api.Packet) { p.Heads = many(api.MaxHeads+1, p.Heads[0]) }),
		with(ack(), func(p *api.Packet) { p.Heads = many(api.MaxHeads+1, p.Heads[0]) }),
		with(ask(), func(p *api.Packet) { p.Keys = many(api.MaxKeys+1, p.Keys[0]) }),
		with(update(), func(p *api.Packet) { p.Lsas = many(api.MaxLsas+1, bareLsa()) }),
		with(update(), func(p *api.Packet) { p.Lsas = many(100, bareLsa()) }),
	}
	for i := range 2 {
		for _, h := range wrongHeads() {
			all = append(all, with(desc(), func(p *api.Packet) { p.Heads[i] = h }), with(ack(), func(p *api.Packet) { p.Heads[i+1] = h }))
		}
	}
	for i := range 3 {
		for _, k := range wrongKeys() {
			all = append(all, with(ask(), func(p *api.Packet) { p.Keys[i] = k }))
		}
		for _, l := range wrongLsas() {
			all = append(all, with(update(), func(p *api.Packet) { p.Lsas[i] = l }))
		}
	}
	return all
}

// notOfItsKind has each part in packets of the Kinds that have it not, of which
// some have parts of their own and some none.
func notOfItsKind() []api.Packet {
	var all []api.Packet
	for _, c := range []struct {
		of []int
		f  func(*api.Packet)
	}{
		{[]int{api.PackHello}, func(p *api.Packet) { p.Bits = 1 }},
		{[]int{api.PackHello}, func(p *api.Packet) { p.Prio = 1 }},
		{[]int{api.PackHello}, func(p *api.Packet) { p.Dr = 1 }},
		{[]int{api.PackHello}, func(p *api.Packet) { p.Bdr = 1 }},
		{[]int{api.PackHello}, func(p *api.Packet) { p.Seen = []int{0} }},
		{[]int{api.PackDesc}, func(p *api.Packet) { p.Flags = 1 }},
		{[]int{api.PackDesc}, func(p *api.Packet) { p.Seq = 1 }},
		{[]int{api.PackDesc, api.PackAck}, func(p *api.Packet) { p.Heads = ack().Heads[:1] }},
		{[]int{api.PackAsk}, func(p *api.Packet) { p.Keys = ask().Keys[:1] }},
		{[]int{api.PackUpdate}, func(p *api.Packet) { p.Lsas = []api.Lsa{bareLsa()} }},
	} {
		for _, p := range ordinary() {
			if !slices.Contains(c.of, p.Kind) {
				all = append(all, with(p, c.f), with(bare(p.Kind), c.f))
			}
		}
	}
	return all
}

// laid is the bytes of a right packet by the words of 6.1, place by place.
func laid(p api.Packet) []byte {
	b := packed(p.Kind, laidBody(p))
	binary.BigEndian.PutUint32(b[4:], uint32(p.Router))
	return resummed(b)
}

// packed is the bytes of a packet of Router 9 with that Kind and body, whatever
// they are; its length and its sum are right.
func packed(kind int, body ...[]byte) []byte {
	b := append(make([]byte, 24), slices.Concat(body...)...)
	b[0], b[1], b[7] = 2, byte(kind), 9
	binary.BigEndian.PutUint16(b[2:], uint16(len(b)))
	return resummed(b)
}

// resummed is b with the sum of what stands there, reckoned word by word.
func resummed(b []byte) []byte {
	b = bytes.Clone(b)
	b[12], b[13] = 0, 0
	words := append(bytes.Clone(b), 0)
	total := uint16(0)
	for i := 0; i+1 < len(words); i += 2 {
		w := binary.BigEndian.Uint16(words[i:])
		total += w
		if total < w {
			total++
		}
	}
	binary.BigEndian.PutUint16(b[12:], 65535-total)
	return b
}

func laidBody(p api.Packet) []byte {
	var b []byte
	if p.Kind == api.PackHello {
		b = binary.BigEndian.AppendUint32(b, uint32(0xffffffff<<(32-p.Bits)))
		b = append(b, 0, 4, 0, byte(p.Prio), 0, 0, 0, 16)
		for _, a := range append([]int{p.Dr, p.Bdr}, p.Seen...) {
			b = binary.BigEndian.AppendUint32(b, uint32(a))
		}
	}
	if p.Kind == api.PackDesc {
		b = append(b, 0, 0, 0, byte(p.Flags))
		b = binary.BigEndian.AppendUint32(b, uint32(p.Seq))
	}
	if p.Kind == api.PackUpdate {
		b = append(b, 0, 0, 0, byte(len(p.Lsas)))
	}
	for _, h := range p.Heads {
		b = append(b, laidHead(h)...)
	}
	for _, k := range p.Keys {
		b = binary.BigEndian.AppendUint32(b, uint32(k.Kind))
		b = binary.BigEndian.AppendUint32(b, uint32(k.Id))
		b = binary.BigEndian.AppendUint32(b, uint32(k.Adv))
	}
	return append(b, laidLsas(p.Lsas...)...)
}

func laidHead(h api.Head) []byte {
	b := binary.BigEndian.AppendUint16(nil, uint16(h.Age))
	b = append(b, 0, byte(h.Kind))
	b = binary.BigEndian.AppendUint32(b, uint32(h.Id))
	b = binary.BigEndian.AppendUint32(b, uint32(h.Adv))
	b = binary.BigEndian.AppendUint32(b, uint32(int32(h.Seq)))
	b = binary.BigEndian.AppendUint16(b, uint16(h.Sum))
	return binary.BigEndian.AppendUint16(b, uint16(h.Len))
}

func laidLsas(list ...api.Lsa) []byte {
	var b []byte
	for _, l := range list {
		told, e := lsa.Put(l)
		if e != api.OK {
			panic("the advertisement is right, and sealed")
		}
		b = append(b, told...)
	}
	return b
}

// turned is b with other bytes at a place; its sum is not turned.
func turned(b []byte, at int, x ...byte) []byte {
	b = bytes.Clone(b)
	copy(b[at:], x)
	return b
}
