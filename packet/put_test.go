package packet

import (
	"bytes"
	"testing"

	"plenum/api"
)

// 6.1

func TestPutKnown(t *testing.T) {
	for _, c := range []struct {
		p    api.Packet
		want []byte
	}{
		{api.Packet{Kind: api.PackAck, Router: 1}, []byte{
			2, 5, 0, 24, 0, 0, 0, 1, 0, 0, 0, 0, 0xfd, 0xe1, 0, 0, 0, 0, 0, 0, 0, 0, 0, 0,
		}},
		{api.Packet{Kind: api.PackAck, Router: 0xfde2}, []byte{ // the words add up to 65535, so the sum is 0
			2, 5, 0, 24, 0, 0, 0xfd, 0xe2, 0, 0, 0, 0, 0, 0, 0, 0, 0, 0, 0, 0, 0, 0, 0, 0,
		}},
		{api.Packet{Kind: api.PackHello, Router: 0x01020304, Bits: 20, Prio: 7, Dr: 0x0a000001, Bdr: 0x0a000002, Seen: []int{5, 0xfffffffe}}, []byte{
			2, 1, 0, 52, 1, 2, 3, 4, 0, 0, 0, 0, 0xf5, 0xa1, 0, 0, 0, 0, 0, 0, 0, 0, 0, 0,
			255, 255, 240, 0, 0, 4, 0, 7, 0, 0, 0, 16, 10, 0, 0, 1, 10, 0, 0, 2,
			0, 0, 0, 5, 255, 255, 255, 254,
		}},
		{api.Packet{Kind: api.PackDesc, Router: 9, Flags: api.FlagInit | api.FlagMore, Seq: 0x81020304, Heads: []api.Head{
			{Age: 0x0102, Kind: api.LsaGroup, Id: 0x03040506, Adv: 0x0708090a, Seq: -2, Sum: 0x0b0c, Len: 0x0d0e},
		}}, []byte{
			2, 2, 0, 52, 0, 0, 0, 9, 0, 0, 0, 0, 0x48, 0x77, 0, 0, 0, 0, 0, 0, 0, 0, 0, 0,
			0, 0, 0, 6, 0x81, 2, 3, 4,
			1, 2, 0, 6, 3, 4, 5, 6, 7, 8, 9, 10, 255, 255, 255, 254, 11, 12, 13, 14,
		}},
		{api.Packet{Kind: api.PackAsk, Router: 9, Keys: []api.Key{{Kind: api.LsaNetwork, Id: 0x01020304, Adv: 0x05060708}}}, []byte{
			2, 3, 0, 36, 0, 0, 0, 9, 0, 0, 0, 0, 0xed, 0xb9, 0, 0, 0, 0, 0, 0, 0, 0, 0, 0,
			0, 0, 0, 2, 1, 2, 3, 4, 5, 6, 7, 8,
		}},
		{api.Packet{Kind: api.PackUpdate, Router: 9, Lsas: []api.Lsa{{
			Head: api.Head{Age: 1, Kind: api.LsaRouter, Adv: 1, Sum: 0x1cc9, Len: 24},
		}}}, []byte{
			2, 4, 0, 52, 0, 0, 0, 9, 0, 0, 0, 0, 0xe0, 0xd9, 0, 0, 0, 0, 0, 0, 0, 0, 0, 0,
			0, 0, 0, 1,
			0, 1, 0, 1, 0, 0, 0, 0, 0, 0, 0, 1, 0, 0, 0, 0, 0x1c, 0xc9, 0, 24, 0, 0, 0, 0,
		}},
	} {
		if b, e := Put(c.p); e != api.OK || !bytes.Equal(b, c.want) {
			t.Errorf("%v is put as %d,\n% x, not\n% x", c.p, e, b, c.want)
		}
	}
}

func TestPutOfRights(t *testing.T) {
	for _, p := range rights() {
		if b, e := Put(p); e != api.OK || !bytes.Equal(b, laid(p)) {
			t.Errorf("%v is put as %d,\n% x, not\n% x", p, e, b, laid(p))
		}
	}
}

func TestLengths(t *testing.T) {
	for _, c := range []struct {
		p    api.Packet
		want int
	}{
		{bare(api.PackHello), 44},
		{bare(api.PackDesc), 32},
		{bare(api.PackAsk), 24},
		{bare(api.PackUpdate), 28},
		{bare(api.PackAck), 24},
		{with(hello(), func(p *api.Packet) { p.Seen = many(api.MaxList, 5) }), 44 + 4*64},
		{with(desc(), func(p *api.Packet) { p.Heads = many(api.MaxHeads, p.Heads[0]) }), 32 + 20*8},
		{with(ask(), func(p *api.Packet) { p.Keys = many(api.MaxKeys, p.Keys[0]) }), 24 + 12*8},
		{with(update(), func(p *api.Packet) { p.Lsas = fourLsas() }), 28 + 48 + 36 + 36 + 20},
		{with(ack(), func(p *api.Packet) { p.Heads = many(api.MaxHeads, p.Heads[0]) }), 24 + 20*8},
	} {
		b, e := Put(c.p)
		if e != api.OK || len(b) != c.want || int(b[2])<<8+int(b[3]) != c.want {
			t.Errorf("%v is put as %d bytes, %d, not %d", c.p, len(b), e, c.want)
		}
	}
}

// 6.2

func TestRightOfRights(t *testing.T) {
	for _, p := range rights() {
		if !Right(p) {
			t.Errorf("%v is right", p)
		}
	}
}

func TestRightOfWrongs(t *testing.T) {
	for _, p := range append(wrongs(), api.Packet{}) {
		if Right(p) {
			t.Errorf("%v is not right", p)
		}
	}
}

// Of all Kinds there are five.
func TestRightOfEachKind(t *testing.T) {
	for kind := -300; kind < 600; kind++ {
		if Right(bare(kind)) != (kind >= 1 && kind <= 5) {
			t.Errorf("a packet of Kind %d: %v", kind, Right(bare(kind)))
		}
	}
}

func TestPutOfWrongs(t *testing.T) {
	for _, p := range append(wrongs(), api.Packet{}) {
		if b, e := Put(p); e != api.ErrArg || b != nil {
			t.Errorf("%v is put as %d, % x", p, e, b)
		}
	}
}

// R3

func TestWhatIsHandedInStays(t *testing.T) {
	for _, p := range append(rights(), wrongs()...) {
		was := clone(p)
		Right(p)
		Put(p)
		if !same(p, was) {
			t.Errorf("%v was changed to %v", was, p)
		}
	}
}

// spoilBytes turns all of the memory of b, spare room too.
func spoilBytes(b []byte) {
	b = b[:cap(b)]
	for i := range b {
		b[i] ^= 0xff
	}
}

func TestPutIsNewMemory(t *testing.T) {
	for _, p := range rights() {
		was := clone(p)
		one, _ := Put(p)
		two, _ := Put(p)
		spoilBytes(one)
		if !same(p, was) || !bytes.Equal(two, laid(p)) {
			t.Errorf("what Put(%v) told shares memory", was)
		}
	}
}

// What stands in the spare room of a list does not count.
func TestPutLooksAtNoSpareRoom(t *testing.T) {
	for _, kind := range []int{api.PackHello, api.PackDesc, api.PackAsk, api.PackUpdate, api.PackAck} {
		p := bare(kind)
		p.Seen, p.Heads = many(99, -1)[:0], make([]api.Head, 99)[:0]
		p.Keys, p.Lsas = make([]api.Key, 99)[:0], make([]api.Lsa, 99)[:0]
		if b, e := Put(p); e != api.OK || !bytes.Equal(b, laid(bare(kind))) {
			t.Errorf("Put of Kind %d looks behind the end: %d, % x", kind, e, b)
		}
	}
}
