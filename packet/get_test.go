package packet

import (
	"bytes"
	"encoding/binary"
	"errors"
	"reflect"
	"slices"
	"testing"

	"plenum/api"
	"plenum/wrap"
)

// wrongGet asks for that error, and for nothing beside it.
func wrongGet(t *testing.T, b []byte, want api.Errno) {
	t.Helper()
	if p, e := Get(b); e != want || !reflect.DeepEqual(p, api.Packet{}) {
		t.Errorf("Get of %d bytes, % x: %v, %d, not %d", len(b), b[:min(len(b), 80)], p, e, want)
	}
}

func rightGet(t *testing.T, b []byte, want api.Packet) {
	t.Helper()
	if p, e := Get(b); e != api.OK || !same(p, want) {
		t.Errorf("Get of % x: %v, %d, not %v", b[:min(len(b), 80)], p, e, want)
	}
}

// 6.3

func TestGetOfRights(t *testing.T) {
	for _, p := range rights() {
		rightGet(t, laid(p), p)
	}
}

// Fewer than 24 bytes, and fewer than the length says.
func TestGetOfFewer(t *testing.T) {
	wrongGet(t, nil, api.ErrShort)
	wrongGet(t, []byte{}, api.ErrShort)
	for n := range 24 {
		wrongGet(t, make([]byte, n), api.ErrShort)
		wrongGet(t, bytes.Repeat([]byte{255}, n), api.ErrShort)
	}
	for _, p := range rights() {
		b := laid(p)
		for n := range b {
			wrongGet(t, b[:n], api.ErrShort)
		}
	}
}

func TestGetWithMoreBehind(t *testing.T) {
	for _, p := range rights() {
		b := laid(p)
		for _, more := range [][]byte{{0}, {0, 0}, {1, 2, 3, 4}, make([]byte, 20), b, make([]byte, 1<<16)} {
			c := append(bytes.Clone(b), more...)
			wrongGet(t, c, api.ErrForm)
			wrongGet(t, resummed(c), api.ErrForm)
		}
	}
}

func TestGetOfEachVersion(t *testing.T) {
	for _, p := range ordinary() {
		b := laid(p)
		for x := range 256 {
			if x == 2 {
				continue
			}
			c := turned(b, 0, byte(x))
			wrongGet(t, c, api.ErrForm)
			wrongGet(t, resummed(c), api.ErrForm)
			wrongGet(t, c[:24], api.ErrForm)
			wrongGet(t, c[:23], api.ErrShort)
		}
	}
}

// Each length but the right one is wrong, be the sum right or not.
func TestGetOfEachLength(t *testing.T) {
	for _, p := range append(ordinary(), bare(api.PackAck)) {
		b := laid(p)
		for n := range 1 << 16 {
			c := turned(b, 2, byte(n>>8), byte(n))
			want := api.ErrForm
			if n == len(b) {
				continue
			}
			if n > len(b) {
				want = api.ErrShort
			}
			wrongGet(t, c, want)
			if n < 1000 {
				wrongGet(t, resummed(c), want)
			}
		}
	}
}

// Each of the fourteen noughts is asked for, ahead of the sum.
func TestGetOfNoughtsOfTheHead(t *testing.T) {
	for _, p := range ordinary() {
		b := laid(p)
		for _, at := range []int{8, 9, 10, 11, 14, 15, 16, 17, 18, 19, 20, 21, 22, 23} {
			for x := 1; x < 256; x++ {
				c := turned(b, at, byte(x))
				wrongGet(t, c, api.ErrForm)
				wrongGet(t, resummed(c), api.ErrForm)
			}
		}
	}
}

// zeroSum is a packet whose sum is 0, so that one of 65535 would add up too.
func zeroSum() api.Packet {
	return api.Packet{Kind: api.PackAck, Router: 0xfde2}
}

// Of all sums one is right: 65535 does not stand for 0.
func TestGetOfEachSum(t *testing.T) {
	if b := laid(zeroSum()); b[12] != 0 || b[13] != 0 {
		t.Fatal("the sum is not 0")
	}
	for _, p := range append(ordinary(), zeroSum()) {
		b := laid(p)
		for n := range 1 << 16 {
			c := turned(b, 12, byte(n>>8), byte(n))
			if bytes.Equal(c, b) {
				rightGet(t, c, p)
			} else {
				wrongGet(t, c, api.ErrSum)
			}
		}
	}
}

// The sum comes ahead of the Kind, the Kind ahead of the body.
func TestGetOfEachKind(t *testing.T) {
	for kind := range 256 {
		if kind >= 1 && kind <= 5 {
			continue
		}
		for _, p := range ordinary() {
			c := turned(laid(p), 1, byte(kind))
			wrongGet(t, c, api.ErrSum)
			wrongGet(t, resummed(c), api.ErrKind)
		}
		for n := range 50 {
			wrongGet(t, packed(kind, make([]byte, n)), api.ErrKind)
			wrongGet(t, packed(kind, bytes.Repeat([]byte{255}, n)), api.ErrKind)
		}
	}
}

// Of bodies that are cut anywhere those are right that end behind a part, and
// have not too many of them.
func TestGetOfCutBodies(t *testing.T) {
	for _, c := range []struct {
		kind  int
		front []byte
		part  []byte
		most  int
	}{
		{api.PackHello, laidBody(bare(api.PackHello)), []byte{1, 2, 3, 4}, api.MaxList},
		{api.PackDesc, laidBody(bare(api.PackDesc)), laidHead(networkLsa().Head), api.MaxHeads},
		{api.PackAsk, nil, []byte{0, 0, 0, 6, 0, 0, 0, 8, 0, 0, 0, 9}, api.MaxKeys},
		{api.PackAck, nil, laidHead(groupLsa().Head), api.MaxHeads},
	} {
		whole := append(bytes.Clone(c.front), bytes.Repeat(c.part, c.most+3)...)
		for n := range len(whole) + 1 {
			b := packed(c.kind, whole[:n])
			rest := n - len(c.front)
			switch {
			case rest < 0 || rest%len(c.part) != 0:
				wrongGet(t, b, api.ErrShort)
			case rest > c.most*len(c.part):
				wrongGet(t, b, api.ErrForm)
			default:
				if p, e := Get(b); e != api.OK || len(p.Seen)+len(p.Heads)+len(p.Keys) != rest/len(c.part) {
					t.Errorf("Kind %d, cut at %d: %v, %d", c.kind, n, p, e)
				}
			}
		}
		// As many as the length has room for end soon, and are too many.
		full := append(bytes.Clone(c.front), bytes.Repeat(c.part, (65535-24-len(c.front))/len(c.part))...)
		wrongGet(t, packed(c.kind, full), api.ErrForm)
	}
	for n := range 4 {
		wrongGet(t, packed(api.PackUpdate, make([]byte, n)), api.ErrShort)
		wrongGet(t, packed(api.PackUpdate, bytes.Repeat([]byte{255}, n)), api.ErrShort)
	}
}

// A body that ends too soon is that first, whatever else is wrong with it.
func TestGetOfCutWrongBodies(t *testing.T) {
	for _, c := range []struct{ kind, fixed, part int }{
		{api.PackHello, 20, 4}, {api.PackDesc, 8, 20}, {api.PackAsk, 0, 12}, {api.PackAck, 0, 20},
	} {
		for n := range 300 {
			want := api.ErrForm
			if n < c.fixed || (n-c.fixed)%c.part != 0 {
				want = api.ErrShort
			}
			body := bytes.Repeat([]byte{0xab}, n)
			if len(body) == 0 && c.fixed == 0 {
				continue // nothing is wrong with it
			}
			wrongGet(t, packed(c.kind, body), want)
			b := packed(c.kind, body)
			b[7] = 0
			wrongGet(t, resummed(b), want)
		}
	}
}

// Numbers that have room in the bytes and are not right all the same.
func TestGetOfWrongNumbers(t *testing.T) {
	head := 24 + 8 // of desc's first
	for _, c := range []struct {
		name string
		p    api.Packet
		at   int
		b    []byte
	}{
		{"a Router of 0", hello(), 4, []byte{0, 0, 0, 0}},
		{"a Router of 0", desc(), 4, []byte{0, 0, 0, 0}},
		{"a Router of 0", ask(), 4, []byte{0, 0, 0, 0}},
		{"a Router of 0", update(), 4, []byte{0, 0, 0, 0}},
		{"a Router of 0", ack(), 4, []byte{0, 0, 0, 0}},
		{"Flags of 8", desc(), 27, []byte{8}},
		{"Flags of 255", desc(), 27, []byte{255}},
		{"an Age of MaxAge and one", desc(), head, []byte{0x0e, 0x11}},
		{"the greatest Age", ack(), 24, []byte{255, 255}},
		{"a head of Kind 0", desc(), head + 3, []byte{0}},
		{"a head of Kind 3", desc(), head + 3, []byte{3}},
		{"a head of Kind 5", ack(), 27, []byte{5}},
		{"a head of Kind 7", ack(), 47, []byte{7}},
		{"a head of Kind 255", ack(), 67, []byte{255}},
		{"a head's Adv of 0", desc(), head + 8, []byte{0, 0, 0, 0}},
		{"the last head's Adv of 0", ack(), 64 + 8, []byte{0, 0, 0, 0}},
		{"a head's Seq below FirstSeq", desc(), head + 12, []byte{0x80, 0, 0, 0}},
		{"a key of Kind 0", ask(), 24, []byte{0, 0, 0, 0}},
		{"a key of Kind 3", ask(), 36, []byte{0, 0, 0, 3}},
		{"a key of Kind 257", ask(), 24, []byte{0, 0, 1, 1}},
		{"a key whose Kind is too high", ask(), 48, []byte{6, 0, 0, 6}},
		{"a key's Adv of 0", ask(), 32, []byte{0, 0, 0, 0}},
		{"the last key's Adv of 0", ask(), 56, []byte{0, 0, 0, 0}},
	} {
		b := turned(laid(c.p), c.at, c.b...)
		wrongGet(t, resummed(b), api.ErrForm)
		if t.Failed() {
			t.Fatal(c.name)
		}
	}
}

// Numbers that look strange, and are right, are told.
func TestGetOfOddNumbers(t *testing.T) {
	for flags := range 8 {
		rightGet(t, resummed(turned(laid(desc()), 27, byte(flags))), with(desc(), func(p *api.Packet) { p.Flags = flags }))
	}
	b := turned(laid(ack()), 24+16, 0, 0, 0, 0)
	rightGet(t, resummed(b), with(ack(), func(p *api.Packet) { p.Heads[0].Sum, p.Heads[0].Len = 0, 0 }))
	b = turned(laid(ack()), 24+16, 255, 255, 255, 255)
	rightGet(t, resummed(b), with(ack(), func(p *api.Packet) { p.Heads[0].Sum, p.Heads[0].Len = 65535, 65535 }))
	b = turned(laid(desc()), 28, 255, 255, 255, 255)
	rightGet(t, resummed(b), with(desc(), func(p *api.Packet) { p.Seq = 1<<32 - 1 }))
	b = turned(laid(ask()), 28, 255, 255, 255, 255, 255, 255, 255, 255)
	rightGet(t, resummed(b), with(ask(), func(p *api.Packet) { p.Keys[0].Id, p.Keys[0].Adv = 1<<32-1, 1<<32-1 }))
}

// HelloTicks and DeadTicks stand in each PackHello, and nothing else.
func TestGetOfOtherTicks(t *testing.T) {
	b := laid(hello())
	for n := range 1 << 16 {
		if n != api.HelloTicks {
			wrongGet(t, resummed(turned(b, 28, byte(n>>8), byte(n))), api.ErrForm)
		}
		if n != api.DeadTicks {
			wrongGet(t, resummed(turned(b, 32, 0, 0, byte(n>>8), byte(n))), api.ErrForm)
		}
	}
	for bit := range 32 {
		c := bytes.Clone(b)
		binary.BigEndian.PutUint32(c[32:], api.DeadTicks^1<<bit)
		wrongGet(t, resummed(c), api.ErrForm)
	}
}

// A byte of a body that should be 0 and is not.
func TestGetOfNoughtsOfBodies(t *testing.T) {
	for _, c := range []struct {
		p      api.Packet
		places []int
	}{
		{hello(), []int{30}},
		{bare(api.PackHello), []int{30}},
		{desc(), []int{24, 25, 26, 32 + 2, 52 + 2}},
		{bare(api.PackDesc), []int{24, 25, 26}},
		{ack(), []int{24 + 2, 44 + 2, 64 + 2}},
		{ask(), []int{24, 25, 26, 36, 37, 38, 48, 49, 50}},
		{update(), []int{28 + 2, 28 + 21, 76 + 2, 112 + 2}},
	} {
		for _, at := range c.places {
			for x := 1; x < 256; x++ {
				wrongGet(t, resummed(turned(laid(c.p), at, byte(x))), api.ErrForm)
			}
		}
	}
}

func TestGetOfMasks(t *testing.T) {
	b := laid(hello())
	for bits := range 33 {
		mask := uint32(0xffffffff << (32 - bits))
		binary.BigEndian.PutUint32(b[24:], mask)
		rightGet(t, resummed(b), with(hello(), func(p *api.Packet) { p.Bits = bits }))
		for bit := range 32 {
			// One bit off at the end of the ones it is another mask.
			if bit == 32-bits || bit == 31-bits {
				continue
			}
			binary.BigEndian.PutUint32(b[24:], mask^1<<bit)
			wrongGet(t, resummed(b), api.ErrForm)
		}
	}
	for _, mask := range []uint32{1, 0x00ffffff, 0x7fffffff, 0xff00ff00, 0xfffffffd} {
		binary.BigEndian.PutUint32(b[24:], mask)
		wrongGet(t, resummed(b), api.ErrForm)
	}
}

// counted is the bytes of a PackUpdate that counts n, with that behind.
func counted(n int, behind ...[]byte) []byte {
	front := binary.BigEndian.AppendUint32(nil, uint32(n))
	return packed(api.PackUpdate, append([][]byte{front}, behind...)...)
}

// How many are counted must be how many there are.
func TestGetOfEachCount(t *testing.T) {
	for there := range api.MaxLsas + 1 {
		list := laidLsas(fourLsas()[:there]...)
		for n := range api.MaxLsas + 1 {
			switch {
			case n == there:
				rightGet(t, counted(n, list), api.Packet{Kind: api.PackUpdate, Router: 9, Lsas: fourLsas()[:n]})
			case n < there:
				wrongGet(t, counted(n, list), api.ErrForm)
			default:
				wrongGet(t, counted(n, list), api.ErrShort)
			}
		}
		for _, n := range []int{api.MaxLsas + 1, api.MaxLsas + 2, 255, 256, 256 + there, 1<<16 + there, 1<<24 + there, 1 << 31, 1<<32 - 1} {
			wrongGet(t, counted(n, list), api.ErrForm)
		}
	}
	five := laidLsas(append(fourLsas(), bareLsa())...)
	wrongGet(t, counted(5, five), api.ErrForm)
	wrongGet(t, counted(4, five), api.ErrForm)
}

// What is left behind the last one is of no part.
func TestGetOfUpdatesWithMore(t *testing.T) {
	for n := range api.MaxLsas + 1 {
		list := laidLsas(fourLsas()[:n]...)
		for _, more := range [][]byte{{0}, {1, 2, 3}, make([]byte, 19), make([]byte, 20), bytes.Repeat([]byte{255}, 50)} {
			wrongGet(t, counted(n, list, more), api.ErrForm)
		}
	}
}

// wrongOnes are bytes of which layer 5 tells each of its errors, whatever is behind.
func wrongOnes() map[string]struct {
	b []byte
	e api.Errno
} {
	whole := laidLsas(routerLsa())
	return map[string]struct {
		b []byte
		e api.Errno
	}{
		"a Len of 19":           {turned(whole, 18, 0, 19), api.ErrForm},
		"a Len beyond the end":  {turned(whole, 18, 255, 255), api.ErrShort},
		"no Kind":               {turned(whole, 3, 9), api.ErrKind},
		"no nought":             {turned(whole, 2, 1), api.ErrForm},
		"more Links than there": {turned(whole, 22, 0, 3), api.ErrForm},
		"an Age above MaxAge":   {turned(whole, 0, 255), api.ErrForm},
		"an Adv of 0":           {turned(whole, 8, 0, 0, 0, 0), api.ErrForm},
		"a Sum turned":          {turned(whole, 16, whole[16]^1), api.ErrSum},
		"another Id":            {turned(whole, 4, whole[4]^1), api.ErrSum},
	}
}

// noRouter is b with a Router of 0, which is the last of all faults.
func noRouter(b []byte) []byte {
	return resummed(turned(b, 4, 0, 0, 0, 0))
}

// The error of one of those that are counted counts; of one behind them it does not.
func TestGetOfUpdatesOfWrongOnes(t *testing.T) {
	for name, c := range wrongOnes() {
		for n := 1; n <= api.MaxLsas; n++ {
			for i := range n {
				ahead, behind := laidLsas(fourLsas()[:i]...), laidLsas(fourLsas()[i+1:n]...)
				b := counted(n, ahead, c.b, behind)
				wrongGet(t, b, c.e)
				wrongGet(t, noRouter(b), c.e)
				wrongGet(t, counted(n, ahead, c.b, behind, []byte{1}), c.e)
				wrongGet(t, counted(i, ahead, c.b, behind), api.ErrForm)
				wrongGet(t, counted(api.MaxLsas+1, ahead, c.b, behind), api.ErrForm)
			}
		}
		if t.Failed() {
			t.Fatal(name)
		}
	}
}

func TestGetOfTheFirstOfSeveralWrongOnes(t *testing.T) {
	good := laidLsas(networkLsa())
	for name, c := range wrongOnes() {
		for other, d := range wrongOnes() {
			wrongGet(t, counted(2, c.b, d.b), c.e)
			wrongGet(t, counted(3, good, c.b, d.b), c.e)
			wrongGet(t, counted(4, c.b, good, d.b, good), c.e)
			if t.Failed() {
				t.Fatal(name, other)
			}
		}
	}
}

// An advertisement that is cut ends too soon.
func TestGetOfCutUpdates(t *testing.T) {
	for n := 1; n <= api.MaxLsas; n++ {
		ahead := laidLsas(fourLsas()[:n-1]...)
		last := laidLsas(fourLsas()[n-1])
		for i := range last {
			wrongGet(t, counted(n, ahead, last[:i]), api.ErrShort)
		}
	}
}

// Faults are laid one over the other, from the one that is named last on.
func TestGetOfSeveralFaults(t *testing.T) {
	b := noRouter(laid(hello()))
	wrongGet(t, b, api.ErrForm)
	b = append(b, 1, 2, 3)
	b[3] += 3
	b = resummed(b)
	wrongGet(t, b, api.ErrShort)
	b[1] = 6
	b = resummed(b)
	wrongGet(t, b, api.ErrKind)
	b[13] ^= 1
	wrongGet(t, b, api.ErrSum)
	for _, at := range []int{11, 14} {
		wrongGet(t, turned(b, at, 1), api.ErrForm)
	}
	wrongGet(t, append(bytes.Clone(b), 0), api.ErrForm)
	b[9] = 1
	b[3]++
	wrongGet(t, b, api.ErrShort)
	wrongGet(t, turned(b, 2, 0, 23), api.ErrForm)
	wrongGet(t, turned(b, 2, 0, 0), api.ErrForm)
	b[0] = 1
	wrongGet(t, b, api.ErrForm)
	wrongGet(t, b[:24], api.ErrForm)
	wrongGet(t, b[:23], api.ErrShort)
}

// More than MaxLsas comes ahead of layer 5's errors, and behind a body that is too short.
func TestGetOfSeveralFaultsOfUpdates(t *testing.T) {
	b := counted(1, laidLsas(groupLsa()), []byte{0})
	wrongGet(t, b, api.ErrForm)
	b[28+17] ^= 1
	wrongGet(t, resummed(b), api.ErrSum)
	b[28+3] = 9
	wrongGet(t, resummed(b), api.ErrKind)
	b[28+19] = 255
	wrongGet(t, resummed(b), api.ErrShort)
	b[27] = 5
	wrongGet(t, resummed(b), api.ErrForm)
	wrongGet(t, packed(api.PackUpdate, []byte{255, 255, 255, 255}), api.ErrForm)
	wrongGet(t, packed(api.PackUpdate, []byte{255, 255, 255}), api.ErrShort)
}

func TestGetOfJunk(t *testing.T) {
	wrongGet(t, make([]byte, 24), api.ErrForm)
	wrongGet(t, make([]byte, 1<<20), api.ErrForm)
	wrongGet(t, bytes.Repeat([]byte{255}, 24), api.ErrForm)
	wrongGet(t, bytes.Repeat([]byte{2}, 24), api.ErrShort)
	wrongGet(t, bytes.Repeat([]byte{2}, 0x0202), api.ErrForm)
	wrongGet(t, bytes.Repeat([]byte{2}, 1<<16), api.ErrForm)
	seed := uint32(1)
	for n := range 3000 {
		junk := make([]byte, n%200)
		for i := range junk {
			seed = seed*1664525 + 1013904223
			junk[i] = byte(seed >> 24)
		}
		checkAgain(t, junk)
		checkAgain(t, packed(n%6, junk))
	}
}

// 6.4

func TestGetOfPut(t *testing.T) {
	for _, p := range rights() {
		b, e := Put(p)
		if e != api.OK {
			t.Fatalf("Put(%v): %d", p, e)
		}
		rightGet(t, b, p)
	}
}

// checkAgain asks that Put tells b again, if Get takes it, and tells whether it does.
func checkAgain(t *testing.T, b []byte) bool {
	t.Helper()
	p, e := Get(b)
	if e != api.OK {
		return false
	}
	if again, e := Put(p); e != api.OK || !bytes.Equal(again, b) {
		t.Fatalf("% x is told as % x, %d", b, again, e)
	}
	return true
}

// Whatever Get takes, of bytes a little off a right packet's, Put tells so again.
func TestPutOfGet(t *testing.T) {
	taken := 0
	for _, p := range rights() {
		b := laid(p)
		for at := range min(len(b), 100) {
			for _, by := range []byte{0, 1, 4, 128, 255} {
				c := turned(b, at, b[at]+by)
				if checkAgain(t, c) {
					taken++
				}
				if checkAgain(t, resummed(c)) {
					taken++
				}
			}
		}
	}
	if taken < len(rights()) {
		t.Error("Get took few:", taken)
	}
}

// One bit turned anywhere is never missed: the sum is of all bytes.
func TestGetOfTurnedBits(t *testing.T) {
	for _, p := range rights() {
		b := laid(p)
		for at := range min(len(b), 300) {
			for bit := range 8 {
				if got, e := Get(turned(b, at, b[at]^1<<bit)); e == api.OK || got.Router != 0 {
					t.Fatalf("bit %d of byte %d turned: %v, %d", bit, at, got, e)
				}
			}
		}
	}
}

// R3

func TestGetLeavesItsBytes(t *testing.T) {
	for _, p := range rights() {
		b := append(laid(p), 1, 2, 3, 4)
		for range 2 {
			was := bytes.Clone(b)
			Get(b[:len(b)-4])
			if !bytes.Equal(b, was) {
				t.Errorf("% x was changed to % x", was, b)
			}
			b[13] ^= 1
		}
	}
}

// whole is a list with its spare room.
func whole[T any](list []T) []T {
	return list[:cap(list)]
}

// spoil turns all of the memory of p's lists, spare room too.
func spoil(p api.Packet) {
	for i := range p.Lsas {
		spoilLsa(p.Lsas[i])
	}
	for i := range whole(p.Seen) {
		whole(p.Seen)[i] = 77
	}
	for i := range whole(p.Heads) {
		whole(p.Heads)[i] = api.Head{Kind: 77}
	}
	for i := range whole(p.Keys) {
		whole(p.Keys)[i] = api.Key{Kind: 77}
	}
	for i := range whole(p.Lsas) {
		whole(p.Lsas)[i] = api.Lsa{Flags: 77}
	}
}

func spoilLsa(l api.Lsa) {
	for i := range whole(l.Links) {
		whole(l.Links)[i] = api.Link{Kind: 77}
	}
	for i := range whole(l.Routers) {
		whole(l.Routers)[i] = 77
	}
	for i := range whole(l.Verts) {
		whole(l.Verts)[i] = api.Vert{Kind: 77}
	}
}

func TestGetIsNewMemory(t *testing.T) {
	for _, p := range rights() {
		b := laid(p)
		one, _ := Get(b)
		two, _ := Get(b)
		spoil(one)
		if !bytes.Equal(b, laid(p)) || !same(two, p) {
			t.Errorf("what Get told of %v shares memory", p)
		}
		spoilBytes(b)
		if !same(two, p) {
			t.Errorf("Get kept the bytes of %v", p)
		}
	}
}

// No two lists of one answer share memory.
func TestListsOfOneAnswer(t *testing.T) {
	for _, p := range rightUpdates() {
		for i := range p.Lsas {
			got, _ := Get(laid(p))
			spoilLsa(got.Lsas[i])
			for j := range p.Lsas {
				if j != i && !sameLsa(got.Lsas[j], p.Lsas[j]) {
					t.Errorf("advertisements %d and %d of %v share memory", i, j, p)
				}
			}
		}
	}
}

// What stands in the spare room of the bytes does not count.
func TestGetLooksAtNoSpareRoom(t *testing.T) {
	for _, p := range ordinary() {
		b := laid(p)
		wrongGet(t, b[:len(b)-1], api.ErrShort)
		wrongGet(t, b[:23], api.ErrShort)
		rightGet(t, append(bytes.Clone(b), 1, 2, 3)[:len(b)], p)
	}
	whole := append(counted(1), laidLsas(bareLsa())...)
	wrongGet(t, whole[:28], api.ErrShort)
}

// Ways

// A fault within tells which part it is of, and errors.As finds its number.
func TestFaultsAreWrapped(t *testing.T) {
	b := laid(update())
	one := turned(b, 44, b[44]^1) // the first advertisement's Sum
	for _, c := range []struct {
		b      []byte
		text   string
		number api.Errno
	}{
		{nil, "head: error 2", api.ErrShort},
		{turned(b, 0, 3), "head: version: error 3", api.ErrForm},
		{turned(b, 2, 0, 23), "head: length: error 3", api.ErrForm},
		{b[:30], "head: length: error 2", api.ErrShort},
		{slices.Concat(b, b), "head: length: error 3", api.ErrForm},
		{turned(b, 8, 1), "head: noughts: error 3", api.ErrForm},
		{turned(b, 12, b[12]^1), "head: sum: error 4", api.ErrSum},
		{packed(9), "body: kind: error 5", api.ErrKind},
		{packed(api.PackHello), "body: error 2", api.ErrShort},
		{resummed(turned(b, 27, 5)), "body: count: error 3", api.ErrForm},
		{resummed(one), "body: advertisement: error 4", api.ErrSum},
		{noRouter(b), "packet: error 3", api.ErrForm},
	} {
		_, err := read(c.b)
		var f wrap.Fault
		if !errors.As(err, &f) || api.Errno(f) != c.number || err.Error() != c.text {
			t.Errorf("%v, not %s", err, c.text)
		}
		wrongGet(t, c.b, c.number)
	}
	if _, err := read(b); err != nil {
		t.Error("none:", err)
	}
}
