package lsa

import (
	"bytes"
	"encoding/binary"
	"errors"
	"math"
	"reflect"
	"slices"
	"testing"

	"plenum/api"
	"plenum/wrap"
)

// Ordinary advertisements, one of each Kind.

func router() api.Lsa {
	return api.Lsa{
		Head:  api.Head{Age: 7, Kind: api.LsaRouter, Id: 0x01020304, Adv: 0x01020304, Seq: api.FirstSeq},
		Flags: api.Wild,
		Links: []api.Link{
			{Kind: api.LinkRouter, Id: 9, Data: 0x0a000001, Cost: 300},
			{Kind: api.LinkTransit, Id: 0x0a000101, Data: 0x0a000102, Cost: 10},
			{Kind: api.LinkStub, Id: 0x0a000200, Data: 0xffffff00, Cost: 1},
		},
	}
}

func network() api.Lsa {
	return api.Lsa{
		Head:    api.Head{Age: 3, Kind: api.LsaNetwork, Id: 0x0a000001, Adv: 5, Seq: -2},
		Bits:    24,
		Routers: []int{5, 6, 0xfffffffe},
	}
}

func group() api.Lsa {
	return api.Lsa{
		Head:  api.Head{Kind: api.LsaGroup, Id: 0xe0010203, Adv: 5, Seq: 3},
		Verts: []api.Vert{{Kind: api.VertRouter, Id: 5}, {Kind: api.VertNetwork, Id: 0x0a000001}},
	}
}

func ordinary() []api.Lsa {
	return []api.Lsa{router(), network(), group()}
}

// with is l turned by f; what f turns of its lists is not seen elsewhere.
func with(l api.Lsa, f func(*api.Lsa)) api.Lsa {
	l = clone(l)
	f(&l)
	return l
}

func clone(l api.Lsa) api.Lsa {
	l.Links, l.Routers, l.Verts = slices.Clone(l.Links), slices.Clone(l.Routers), slices.Clone(l.Verts)
	return l
}

// same holds two against each other; a nil list and an empty one are one.
func same(a, b api.Lsa) bool {
	return a.Head == b.Head && a.Flags == b.Flags && a.Bits == b.Bits &&
		slices.Equal(a.Links, b.Links) && slices.Equal(a.Routers, b.Routers) && slices.Equal(a.Verts, b.Verts)
}

func many[T any](n int, x T) []T {
	return slices.Repeat([]T{x}, n)
}

// rights are right advertisements: ordinary ones, and each part at its ends.
func rights() []api.Lsa {
	all := ordinary()
	for _, l := range ordinary() {
		all = append(all, api.Lsa{Head: l.Head}, api.Lsa{Head: l.Head, Links: []api.Link{}, Routers: []int{}, Verts: []api.Vert{}})
		for _, f := range []func(*api.Lsa){
			func(l *api.Lsa) { l.Head.Age = 0 },
			func(l *api.Lsa) { l.Head.Age = 255 },
			func(l *api.Lsa) { l.Head.Age = 256 },
			func(l *api.Lsa) { l.Head.Age = api.MaxAge },
			func(l *api.Lsa) { l.Head.Id = 0 },
			func(l *api.Lsa) { l.Head.Id = 1<<32 - 1 },
			func(l *api.Lsa) { l.Head.Adv = 1 },
			func(l *api.Lsa) { l.Head.Adv = 1<<32 - 1 },
			func(l *api.Lsa) { l.Head.Seq = api.FirstSeq },
			func(l *api.Lsa) { l.Head.Seq = -1 },
			func(l *api.Lsa) { l.Head.Seq = 0 },
			func(l *api.Lsa) { l.Head.Seq = api.LastSeq },
		} {
			all = append(all, with(l, f))
		}
	}
	for flags := range 256 {
		all = append(all, with(router(), func(l *api.Lsa) { l.Flags = flags }))
	}
	for bits := range 33 {
		all = append(all, with(network(), func(l *api.Lsa) { l.Bits = bits }))
	}
	for _, k := range []api.Link{
		{Kind: api.LinkRouter}, {Kind: api.LinkTransit}, {Kind: api.LinkStub},
		{Kind: api.LinkStub, Id: 1<<32 - 1, Data: 1<<32 - 1, Cost: 65535},
		{Kind: api.LinkRouter, Id: 1 << 31, Data: 1 << 31, Cost: 256},
	} {
		for _, n := range []int{1, 2, 63, api.MaxList} {
			all = append(all, with(router(), func(l *api.Lsa) { l.Links = many(n, k) }))
		}
	}
	for _, r := range []int{0, 1, 1<<32 - 1} {
		for _, n := range []int{1, 2, 63, api.MaxList} {
			all = append(all, with(network(), func(l *api.Lsa) { l.Routers = many(n, r) }))
		}
	}
	for _, v := range []api.Vert{{Kind: api.VertRouter}, {Kind: api.VertNetwork}, {Kind: api.VertNetwork, Id: 1<<32 - 1}} {
		for _, n := range []int{1, 2, 63, api.MaxList} {
			all = append(all, with(group(), func(l *api.Lsa) { l.Verts = many(n, v) }))
		}
	}
	return all
}

// strangers are numbers that are no address.
func strangers() []int {
	return []int{-1, 1 << 32, 1<<32 + 5, -1<<32 + 5, math.MinInt, math.MaxInt}
}

// wrongs are advertisements with one thing that is not right.
func wrongs() []api.Lsa {
	var all []api.Lsa
	for _, l := range ordinary() {
		all = append(all, wrongHeads(l)...)
	}
	return append(all, wrongBodies()...)
}

func wrongHeads(l api.Lsa) []api.Lsa {
	var all []api.Lsa
	for _, n := range []int{0, -1, 3, 4, 5, 7, 255, 256, 256 + l.Head.Kind, 1<<32 + l.Head.Kind, math.MinInt, math.MaxInt} {
		all = append(all, with(l, func(l *api.Lsa) { l.Head.Kind = n }), api.Lsa{Head: api.Head{Kind: n, Adv: 1}})
	}
	for _, n := range []int{-1, api.MaxAge + 1, 65535, 65536, math.MinInt, math.MaxInt} {
		all = append(all, with(l, func(l *api.Lsa) { l.Head.Age = n }))
	}
	for _, n := range strangers() {
		all = append(all, with(l, func(l *api.Lsa) { l.Head.Id = n }), with(l, func(l *api.Lsa) { l.Head.Adv = n }))
	}
	all = append(all, with(l, func(l *api.Lsa) { l.Head.Adv = 0 }))
	for _, n := range []int{api.FirstSeq - 1, api.FirstSeq - 2, api.LastSeq + 1, 1<<32 - 1, math.MinInt, math.MaxInt} {
		all = append(all, with(l, func(l *api.Lsa) { l.Head.Seq = n }))
	}
	return all
}

func wrongBodies() []api.Lsa {
	all := notOfItsKind()
	all = append(all,
		with(router(), func(l *api.Lsa) { l.Links = many(api.MaxList+1, l.Links[0]) }),
		with(network(), func(l *api.Lsa) { l.Routers = many(api.MaxList+1, 5) }),
		with(group(), func(l *api.Lsa) { l.Verts = many(api.MaxList+1, l.Verts[0]) }),
	)
	for _, n := range []int{-1, 256, 1<<32 + 8, math.MinInt, math.MaxInt} {
		all = append(all, with(router(), func(l *api.Lsa) { l.Flags = n }))
	}
	for _, n := range []int{-1, 33, 64, math.MinInt, math.MaxInt} {
		all = append(all, with(network(), func(l *api.Lsa) { l.Bits = n }))
	}
	for i := range router().Links {
		for _, n := range []int{0, -1, 4, 256 + api.LinkStub, math.MinInt, math.MaxInt} {
			all = append(all, with(router(), func(l *api.Lsa) { l.Links[i].Kind = n }))
		}
		for _, n := range []int{-1, 65536, math.MinInt, math.MaxInt} {
			all = append(all, with(router(), func(l *api.Lsa) { l.Links[i].Cost = n }))
		}
		for _, n := range strangers() {
			all = append(all,
				with(router(), func(l *api.Lsa) { l.Links[i].Id = n }),
				with(router(), func(l *api.Lsa) { l.Links[i].Data = n }),
				with(network(), func(l *api.Lsa) { l.Routers[i] = n }),
			)
		}
	}
	for i := range group().Verts {
		for _, n := range []int{0, -1, 3, 1<<32 + api.VertRouter, math.MinInt, math.MaxInt} {
			all = append(all, with(group(), func(l *api.Lsa) { l.Verts[i].Kind = n }))
		}
		for _, n := range strangers() {
			all = append(all, with(group(), func(l *api.Lsa) { l.Verts[i].Id = n }))
		}
	}
	return all
}

// notOfItsKind has each part in advertisements of the other Kinds, of which
// some have a body of their own and some none.
func notOfItsKind() []api.Lsa {
	var all []api.Lsa
	for _, c := range []struct {
		own int
		f   func(*api.Lsa)
	}{
		{api.LsaRouter, func(l *api.Lsa) { l.Flags = 1 }},
		{api.LsaRouter, func(l *api.Lsa) { l.Links = router().Links }},
		{api.LsaRouter, func(l *api.Lsa) { l.Links = router().Links[:1] }},
		{api.LsaNetwork, func(l *api.Lsa) { l.Bits = 1 }},
		{api.LsaNetwork, func(l *api.Lsa) { l.Routers = []int{0} }},
		{api.LsaGroup, func(l *api.Lsa) { l.Verts = group().Verts[1:] }},
	} {
		for _, l := range ordinary() {
			if l.Head.Kind != c.own {
				all = append(all, with(l, c.f), with(api.Lsa{Head: l.Head}, c.f))
			}
		}
	}
	return all
}

// laidWith is the bytes of a right advertisement by the words of 5.1, place by
// place, with that Sum and Len.
func laidWith(l api.Lsa, sum, n int) []byte {
	b := make([]byte, 20)
	binary.BigEndian.PutUint16(b, uint16(l.Head.Age))
	b[3] = byte(l.Head.Kind)
	binary.BigEndian.PutUint32(b[4:], uint32(l.Head.Id))
	binary.BigEndian.PutUint32(b[8:], uint32(l.Head.Adv))
	binary.BigEndian.PutUint32(b[12:], uint32(int32(l.Head.Seq)))
	binary.BigEndian.PutUint16(b[16:], uint16(sum))
	binary.BigEndian.PutUint16(b[18:], uint16(n))
	return append(b, laidBody(l)...)
}

func laidBody(l api.Lsa) []byte {
	var b []byte
	if l.Head.Kind == api.LsaRouter {
		b = append(b, byte(l.Flags), 0)
		b = binary.BigEndian.AppendUint16(b, uint16(len(l.Links)))
		for _, k := range l.Links {
			b = binary.BigEndian.AppendUint32(b, uint32(k.Id))
			b = binary.BigEndian.AppendUint32(b, uint32(k.Data))
			b = append(b, byte(k.Kind), 0, byte(k.Cost>>8), byte(k.Cost))
		}
	}
	if l.Head.Kind == api.LsaNetwork {
		b = binary.BigEndian.AppendUint32(b, uint32(0xffffffff<<(32-l.Bits)))
		for _, r := range l.Routers {
			b = binary.BigEndian.AppendUint32(b, uint32(r))
		}
	}
	for _, v := range l.Verts {
		b = binary.BigEndian.AppendUint32(b, uint32(v.Kind))
		b = binary.BigEndian.AppendUint32(b, uint32(v.Id))
	}
	return b
}

// laid is the bytes of a right advertisement with its seal.
func laid(l api.Lsa) []byte {
	return filled(laidWith(l, 0, 20+len(laidBody(l))))
}

// filled is b with the sum of what stands there, which is sought, not reckoned.
func filled(b []byte) []byte {
	b = bytes.Clone(b)
	for x := 1; x < 256; x++ {
		b[16] = byte(x)
		b[17] = second(b)
		if vanish(b[2:]) {
			return b
		}
	}
	panic("there is always a sum")
}

// second is the one byte from 1 to 255 behind the 17th with which the plain sum vanishes.
func second(b []byte) byte {
	c := 0
	for i := 2; i < len(b); i++ {
		if i != 17 {
			c += int(b[i])
		}
	}
	return byte(255 - c%255)
}

// vanish is 2.2's Good, by its words.
func vanish(b []byte) bool {
	c, d := 0, 0
	for i, x := range b {
		c += int(x)
		d += int(x) * (len(b) - i)
	}
	return c%255 == 0 && d%255 == 0
}

// sealedByHand is l with the Len and the Sum of the bytes that were laid.
func sealedByHand(l api.Lsa) api.Lsa {
	b := laid(l)
	l.Head.Len = len(b)
	l.Head.Sum = int(b[16])<<8 + int(b[17])
	return l
}

// turned is b with another byte at a place.
func turned(b []byte, at int, x byte) []byte {
	b = bytes.Clone(b)
	b[at] = x
	return b
}

// 5.1

func TestPutKnown(t *testing.T) {
	for _, c := range []struct {
		l    api.Lsa
		want []byte
	}{
		{api.Lsa{Head: api.Head{Kind: api.LsaRouter, Adv: 1}}, []byte{
			0, 0, 0, 1, 0, 0, 0, 0, 0, 0, 0, 1, 0, 0, 0, 0, 0x1c, 0xc9, 0, 24,
			0, 0, 0, 0,
		}},
		{router(), []byte{
			0, 7, 0, 1, 1, 2, 3, 4, 1, 2, 3, 4, 0x80, 0, 0, 1, 0x08, 0xa2, 0, 60,
			8, 0, 0, 3,
			0, 0, 0, 9, 10, 0, 0, 1, 1, 0, 1, 44,
			10, 0, 1, 1, 10, 0, 1, 2, 2, 0, 0, 10,
			10, 0, 2, 0, 255, 255, 255, 0, 3, 0, 0, 1,
		}},
		{network(), []byte{
			0, 3, 0, 2, 10, 0, 0, 1, 0, 0, 0, 5, 255, 255, 255, 254, 0xf7, 0xc8, 0, 36,
			255, 255, 255, 0,
			0, 0, 0, 5, 0, 0, 0, 6, 255, 255, 255, 254,
		}},
		{group(), []byte{
			0, 0, 0, 6, 224, 1, 2, 3, 0, 0, 0, 5, 0, 0, 0, 3, 0x21, 0xb2, 0, 36,
			0, 0, 0, 1, 0, 0, 0, 5,
			0, 0, 0, 2, 10, 0, 0, 1,
		}},
	} {
		if b, e := Put(Seal(c.l)); e != api.OK || !bytes.Equal(b, c.want) {
			t.Errorf("%v is put as %d,\n% x, not\n% x", c.l, e, b, c.want)
		}
	}
}

func TestPutOfRights(t *testing.T) {
	for _, l := range rights() {
		if b, e := Put(sealedByHand(l)); e != api.OK || !bytes.Equal(b, laid(l)) {
			t.Errorf("%v is put as %d,\n% x, not\n% x", l, e, b, laid(l))
		}
	}
}

func TestLengths(t *testing.T) {
	one := with(group(), func(l *api.Lsa) { l.Verts = l.Verts[:1] })
	for _, c := range []struct {
		l    api.Lsa
		want int
	}{
		{one, 28},
		{api.Lsa{Head: group().Head}, 20},
		{api.Lsa{Head: network().Head}, 24},
		{api.Lsa{Head: router().Head}, 24},
		{with(router(), func(l *api.Lsa) { l.Links = many(api.MaxList, l.Links[0]) }), 24 + 12*64},
		{with(network(), func(l *api.Lsa) { l.Routers = many(api.MaxList, 5) }), 24 + 4*64},
		{with(group(), func(l *api.Lsa) { l.Verts = many(api.MaxList, l.Verts[0]) }), 20 + 8*64},
	} {
		l := Seal(c.l)
		if b, e := Put(l); e != api.OK || len(b) != c.want || l.Head.Len != c.want {
			t.Errorf("%d bytes, a Len of %d, %d, not %d", len(b), l.Head.Len, e, c.want)
		}
	}
}

// 5.2

func TestRightOfRights(t *testing.T) {
	for _, l := range rights() {
		if !Right(l) {
			t.Errorf("%v is right", l)
		}
	}
}

func TestRightOfWrongs(t *testing.T) {
	for _, l := range wrongs() {
		if Right(l) {
			t.Errorf("%v is not right", l)
		}
	}
	if Right(api.Lsa{}) {
		t.Error("the zero value is not right")
	}
}

// Sum and Len are not asked for.
func TestRightWhateverTheSeal(t *testing.T) {
	for _, n := range []int{-1, 1, 20, 65535, 65536, math.MinInt, math.MaxInt} {
		for _, l := range ordinary() {
			if !Right(with(l, func(l *api.Lsa) { l.Head.Sum = n })) || !Right(with(l, func(l *api.Lsa) { l.Head.Len = n })) {
				t.Errorf("%v is right, whatever its seal", l)
			}
		}
	}
}

func TestSealOfRights(t *testing.T) {
	for _, l := range rights() {
		if got := Seal(l); !same(got, sealedByHand(l)) {
			t.Errorf("the seal of %v is %v, not %v", l, got.Head, sealedByHand(l).Head)
		}
	}
}

// What stands there already does not count.
func TestSealOverASeal(t *testing.T) {
	for _, l := range ordinary() {
		want := sealedByHand(l)
		for _, n := range []int{0, 1, 255, 256, 0xffff, 0x10000, want.Head.Sum, want.Head.Sum ^ 1, want.Head.Len, want.Head.Len + 1, -1, math.MinInt, math.MaxInt} {
			for _, m := range []int{0, n, want.Head.Len, 19, 20, 65535} {
				l.Head.Sum, l.Head.Len = n, m
				if got := Seal(l); !same(got, want) {
					t.Errorf("%v is sealed as %v, not %v", l.Head, got.Head, want.Head)
				}
			}
		}
	}
}

// Growing old does not break the seal.
func TestSealLeavesTheAgeOut(t *testing.T) {
	for _, l := range ordinary() {
		l = Seal(l)
		for age := range api.MaxAge + 1 {
			l.Head.Age = age
			if Seal(l).Head != l.Head {
				t.Fatalf("at an Age of %d the seal is %v, not %v", age, Seal(l).Head, l.Head)
			}
		}
	}
}

func TestSealOfWrongs(t *testing.T) {
	for _, l := range wrongs() {
		if got := Seal(l); !same(got, l) {
			t.Errorf("the seal of %v is %v", l, got)
		}
		l.Head.Sum, l.Head.Len = 0x1234, 99
		if got := Seal(l); !same(got, l) {
			t.Errorf("the seal of %v is %v", l, got)
		}
	}
	if got := Seal(api.Lsa{}); !same(got, api.Lsa{}) {
		t.Error("the seal of the zero value:", got)
	}
}

// 5.3

func TestPutOfWrongs(t *testing.T) {
	wrongPut(t, api.Lsa{})
	for _, l := range wrongs() {
		wrongPut(t, l)
		// Not even a seal of its own lets it through.
		l.Head = sealed(l)
		wrongPut(t, l)
	}
}

func wrongPut(t *testing.T, l api.Lsa) {
	t.Helper()
	if b, e := Put(l); e != api.ErrArg || len(b) != 0 {
		t.Errorf("%v is put as %d, % x", l, e, b)
	}
}

// Of all Sums and all Lens one is right.
func TestPutOfAnotherSeal(t *testing.T) {
	for _, l := range ordinary() {
		l = sealedByHand(l)
		for n := range 1 << 16 {
			if n != l.Head.Sum {
				wrongPut(t, with(l, func(l *api.Lsa) { l.Head.Sum = n }))
			}
			if n != l.Head.Len {
				wrongPut(t, with(l, func(l *api.Lsa) { l.Head.Len = n }))
			}
		}
		for _, by := range []int{1 << 16, 1 << 32, -1 << 16, math.MinInt} {
			wrongPut(t, with(l, func(l *api.Lsa) { l.Head.Sum += by }))
			wrongPut(t, with(l, func(l *api.Lsa) { l.Head.Len += by }))
		}
		wrongPut(t, with(l, func(l *api.Lsa) { l.Head.Sum, l.Head.Len = 0, 0 }))
	}
}

func wrongGet(t *testing.T, b []byte, at int, want api.Errno) {
	t.Helper()
	if l, next, e := Get(b, at); e != want || next != 0 || !same(l, api.Lsa{}) {
		t.Errorf("Get at %d of %d bytes, % x: %v, %d, %d, not %d", at, len(b), b[:min(len(b), 64)], l, next, e, want)
	}
}

func rightGet(t *testing.T, b []byte, at int, want api.Lsa) (next int) {
	t.Helper()
	l, next, e := Get(b, at)
	if e != api.OK || next != at+want.Head.Len || !same(l, want) {
		t.Errorf("Get at %d: %v, %d, %d, not %v", at, l, next, e, want)
	}
	return next
}

func TestGetOfRights(t *testing.T) {
	for _, l := range rights() {
		rightGet(t, laid(l), 0, sealedByHand(l))
	}
}

// What stands ahead of the place, and behind the advertisement, does not count.
func TestGetAmongOthers(t *testing.T) {
	for _, l := range rights() {
		for _, ahead := range []int{1, 3, 20, 300} {
			b := append(bytes.Repeat([]byte{0x99}, ahead), laid(l)...)
			rightGet(t, b, ahead, sealedByHand(l))
			rightGet(t, append(b, 1), ahead, sealedByHand(l))
			rightGet(t, append(b, make([]byte, 50)...), ahead, sealedByHand(l))
		}
	}
}

func TestGetOneBehindAnother(t *testing.T) {
	var b []byte
	for _, l := range rights() {
		b = append(b, laid(l)...)
	}
	at := 0
	for _, l := range rights() {
		at = rightGet(t, b, at, sealedByHand(l))
	}
	if at != len(b) {
		t.Errorf("the last ends at %d, not at %d", at, len(b))
	}
	wrongGet(t, b, at, api.ErrShort)
}

func TestGetAtNoPlace(t *testing.T) {
	b := laid(router())
	for _, at := range []int{-1, -20, -len(b), -len(b) - 1, len(b) - 19, len(b) - 1, len(b), len(b) + 1, 1 << 32, -1 << 32, math.MinInt, math.MinInt + 20, math.MaxInt, math.MaxInt - 19} {
		wrongGet(t, b, at, api.ErrShort)
		wrongGet(t, nil, at, api.ErrShort)
		wrongGet(t, []byte{}, at, api.ErrShort)
	}
	wrongGet(t, nil, 0, api.ErrShort)
}

func TestGetOfFewer(t *testing.T) {
	for _, l := range ordinary() {
		b := laid(l)
		for n := range b {
			wrongGet(t, b[:n], 0, api.ErrShort)
			wrongGet(t, append([]byte{1, 2, 3}, b[:n]...), 3, api.ErrShort)
		}
	}
	wrongGet(t, bytes.Repeat([]byte{255}, 19), 0, api.ErrShort)
}

// lens are those that a list of MaxList may have and some more, and a few of
// all the others.
func lens() []int {
	var all []int
	for n := range 900 {
		all = append(all, n)
	}
	for n := 900; n < 1<<16; n += 509 {
		all = append(all, n)
	}
	return append(all, 1<<15, 1<<16-1)
}

// Each Len but the right one is wrong, with and without bytes enough behind.
func TestGetOfEachLen(t *testing.T) {
	for _, l := range append(ordinary(), api.Lsa{Head: router().Head}, api.Lsa{Head: network().Head}, api.Lsa{Head: group().Head}) {
		b := laid(l)
		long := append(bytes.Clone(b), make([]byte, 1<<16)...)
		for _, n := range lens() {
			if n == len(b) {
				continue
			}
			binary.BigEndian.PutUint16(b[18:], uint16(n))
			binary.BigEndian.PutUint16(long[18:], uint16(n))
			if n > len(b) {
				wrongGet(t, b, 0, api.ErrShort)
			} else {
				wrongGet(t, b, 0, formOrSum(l, n))
			}
			wrongGet(t, long, 0, formOrSum(l, n))
		}
	}
}

// formOrSum is what is wrong with l's bytes where their Len is n and noughts
// are behind them: a network of fewer routers, or of routers of 0, and a group
// of fewer vertices could be, but for the sum.
func formOrSum(l api.Lsa, n int) api.Errno {
	network := l.Head.Kind == api.LsaNetwork && n >= 24 && n <= 24+4*api.MaxList && n%4 == 0
	group := l.Head.Kind == api.LsaGroup && n >= 20 && n < 20+8*len(l.Verts) && n%8 == 4
	if network || group {
		return api.ErrSum
	}
	return api.ErrForm
}

// A body may end only where 5.1 lets it, whatever the sum.
func TestGetOfOtherBodies(t *testing.T) {
	for kind, lens := range map[int][]int{
		api.LsaRouter:  {24},
		api.LsaNetwork: {24, 28, 32, 36, 40, 44, 48, 52, 56, 60},
		api.LsaGroup:   {20},
	} {
		for n := 20; n < 64; n++ {
			b := make([]byte, n)
			b[3], b[11], b[19] = byte(kind), 1, byte(n)
			b = filled(b)
			if !slices.Contains(lens, n) {
				wrongGet(t, b, 0, api.ErrForm)
			} else if _, next, e := Get(b, 0); e != api.OK || next != n {
				t.Errorf("%d bytes of Kind %d: %d, %d", n, kind, next, e)
			}
		}
	}
}

// Lists of one more than MaxList, and of many more, are not told of any that is right.
func TestGetOfMoreThanMaxList(t *testing.T) {
	for _, n := range []int{api.MaxList + 1, api.MaxList + 2, 1000} {
		for _, l := range []api.Lsa{
			with(router(), func(l *api.Lsa) { l.Links = many(n, l.Links[0]) }),
			with(network(), func(l *api.Lsa) { l.Routers = many(n, 5) }),
			with(group(), func(l *api.Lsa) { l.Verts = many(n, l.Verts[0]) }),
		} {
			wrongGet(t, laid(l), 0, api.ErrForm)
		}
	}
}

// How many Links are counted must be how many there are.
func TestGetOfEachCount(t *testing.T) {
	for _, links := range []int{0, 1, 3, api.MaxList} {
		l := with(router(), func(l *api.Lsa) { l.Links = many(links, l.Links[0]) })
		b := laid(l)
		for _, n := range []int{0, 1, 2, 3, 4, 63, 64, 65, 256, 256 + links, 0xffff} {
			if n == links {
				continue
			}
			c := bytes.Clone(b)
			binary.BigEndian.PutUint16(c[22:], uint16(n))
			wrongGet(t, c, 0, api.ErrForm)
			wrongGet(t, filled(c), 0, api.ErrForm)
		}
	}
}

// The Kind comes ahead of the form and of the sum.
func TestGetOfEachKind(t *testing.T) {
	for _, l := range ordinary() {
		for kind := range 256 {
			b := turned(laid(l), 3, byte(kind))
			switch kind {
			case l.Head.Kind:
				rightGet(t, b, 0, sealedByHand(l))
			case api.LsaRouter, api.LsaNetwork, api.LsaGroup:
				wrongGet(t, b, 0, api.ErrForm)
				wrongGet(t, filled(b), 0, api.ErrForm)
			default:
				wrongGet(t, b, 0, api.ErrKind)
				wrongGet(t, filled(b), 0, api.ErrKind)
				wrongGet(t, turned(b, 2, 1), 0, api.ErrKind)
			}
		}
	}
}

// A byte that should be 0 and is not is no matter of the sum alone.
func TestGetOfNoughts(t *testing.T) {
	for _, l := range ordinary() {
		places := []int{2}
		if l.Head.Kind == api.LsaRouter {
			places = []int{2, 21, 33, 45, 57}
		}
		for _, at := range places {
			for x := 1; x < 256; x++ {
				b := turned(laid(l), at, byte(x))
				wrongGet(t, b, 0, api.ErrForm)
				wrongGet(t, filled(b), 0, api.ErrForm)
			}
		}
	}
}

// Numbers that have room in the bytes and are not right all the same.
func TestGetOfWrongNumbers(t *testing.T) {
	for _, c := range []struct {
		name string
		l    api.Lsa
		at   int
		b    []byte
	}{
		{"an Age of MaxAge and one", router(), 0, []byte{0x0e, 0x11}},
		{"the greatest Age", router(), 0, []byte{255, 255}},
		{"an Adv of 0", network(), 8, []byte{0, 0, 0, 0}},
		{"a Seq below FirstSeq", group(), 12, []byte{0x80, 0, 0, 0}},
		{"a Link of Kind 0", router(), 32, []byte{0}},
		{"a Link of Kind 4", router(), 44, []byte{4}},
		{"a Link of Kind 255", router(), 56, []byte{255}},
		{"a Vert of Kind 0", group(), 20, []byte{0, 0, 0, 0}},
		{"a Vert of Kind 3", group(), 28, []byte{0, 0, 0, 3}},
		{"a Vert whose Kind is too high", group(), 28, []byte{1, 0, 0, 1}},
	} {
		b := laid(c.l)
		copy(b[c.at:], c.b)
		for _, b := range [][]byte{b, filled(b)} {
			if _, _, e := Get(b, 0); e != api.ErrForm {
				t.Errorf("%s: %d", c.name, e)
			}
			wrongGet(t, b, 0, api.ErrForm)
		}
	}
}

// Of masks there are 33; all else is none.
func TestGetOfMasks(t *testing.T) {
	b := laid(network())
	for bits := range 33 {
		want := with(network(), func(l *api.Lsa) { l.Bits = bits })
		mask := uint32(0xffffffff << (32 - bits))
		binary.BigEndian.PutUint32(b[20:], mask)
		rightGet(t, filled(b), 0, sealedByHand(want))
		for bit := range 32 {
			other := mask ^ 1<<bit
			// One bit off at the end of the ones it is another mask.
			if bit == 32-bits || bit == 31-bits {
				continue
			}
			binary.BigEndian.PutUint32(b[20:], other)
			wrongGet(t, filled(b), 0, api.ErrForm)
		}
	}
	for _, mask := range []uint32{1, 0x00ffffff, 0x7fffffff, 0xff00ff00, 0xfffffffd} {
		binary.BigEndian.PutUint32(b[20:], mask)
		wrongGet(t, b, 0, api.ErrForm)
		wrongGet(t, filled(b), 0, api.ErrForm)
	}
}

// fulls are advertisements whose Sum has a byte of 255: the first, the second.
func fulls() []api.Lsa {
	var first, second []api.Lsa
	for id := range 600 {
		l := with(network(), func(l *api.Lsa) { l.Head.Id = id })
		s := sealedByHand(l).Head.Sum
		if s>>8 == 255 {
			first = append(first, l)
		}
		if s&255 == 255 {
			second = append(second, l)
		}
	}
	return []api.Lsa{first[0], second[0]}
}

// Of all Sums one is right: a byte of 0 does not stand for one of 255.
func TestGetOfEachSum(t *testing.T) {
	for _, l := range append(ordinary(), fulls()...) {
		b := laid(l)
		want := sealedByHand(l)
		for s := range 1 << 16 {
			binary.BigEndian.PutUint16(b[16:], uint16(s))
			if s == want.Head.Sum {
				rightGet(t, b, 0, want)
				continue
			}
			wrongGet(t, b, 0, api.ErrSum)
		}
	}
}

// Faults are laid one over the other, from the one that is named last on.
func TestGetOfSeveralFaults(t *testing.T) {
	b := laid(router())
	b[17] ^= 1
	wrongGet(t, b, 0, api.ErrSum)
	b[21] = 1
	wrongGet(t, b, 0, api.ErrForm)
	b[3] = 9
	wrongGet(t, b, 0, api.ErrKind)
	b[19] = byte(len(b) + 1)
	wrongGet(t, b, 0, api.ErrShort)
	b[19] = 19
	wrongGet(t, b, 0, api.ErrForm)
	wrongGet(t, b[:20], 0, api.ErrForm)
	wrongGet(t, b[:19], 0, api.ErrShort)
	b[18], b[19] = 0, 0
	wrongGet(t, b, 0, api.ErrForm)
	wrongGet(t, b, len(b)-19, api.ErrShort)
}

// Of 20 bytes and more all that counts is what they are.
func TestGetOfJunk(t *testing.T) {
	wrongGet(t, make([]byte, 20), 0, api.ErrForm)
	wrongGet(t, make([]byte, 1000), 0, api.ErrForm)
	wrongGet(t, bytes.Repeat([]byte{255}, 20), 0, api.ErrShort)
	wrongGet(t, bytes.Repeat([]byte{255}, 1<<16-2), 0, api.ErrShort)
	wrongGet(t, bytes.Repeat([]byte{255}, 1<<16-1), 0, api.ErrKind)
	for kind := range 8 {
		junk := bytes.Repeat([]byte{255}, 1<<16+50)
		junk[3] = byte(kind)
		want := api.ErrForm
		if kind != api.LsaRouter && kind != api.LsaNetwork && kind != api.LsaGroup {
			want = api.ErrKind
		}
		wrongGet(t, junk, 0, want)
	}
}

// 5.4

func TestPutHeadKnown(t *testing.T) {
	for _, c := range []struct {
		h    api.Head
		want []byte
	}{
		{api.Head{}, make([]byte, 20)},
		{
			api.Head{Age: 0x0102, Kind: 3, Id: 0x04050607, Adv: 0x08090a0b, Seq: 0x0c0d0e0f, Sum: 0x1011, Len: 0x1213},
			[]byte{1, 2, 0, 3, 4, 5, 6, 7, 8, 9, 10, 11, 12, 13, 14, 15, 16, 17, 18, 19},
		},
		{
			api.Head{Age: -1, Kind: -2, Id: -3, Adv: -4, Seq: -5, Sum: -6, Len: -7},
			[]byte{255, 255, 0, 254, 255, 255, 255, 253, 255, 255, 255, 252, 255, 255, 255, 251, 255, 250, 255, 249},
		},
		{
			api.Head{Age: 1<<16 + 1, Kind: 1<<8 + 2, Id: 1<<32 + 3, Adv: 1<<40 + 4, Seq: 1<<32 + 5, Sum: 1<<16 + 6, Len: 1<<62 + 7},
			[]byte{0, 1, 0, 2, 0, 0, 0, 3, 0, 0, 0, 4, 0, 0, 0, 5, 0, 6, 0, 7},
		},
		{
			api.Head{Seq: api.FirstSeq, Id: math.MinInt, Adv: math.MaxInt},
			[]byte{0, 0, 0, 0, 0, 0, 0, 0, 255, 255, 255, 255, 0x80, 0, 0, 1, 0, 0, 0, 0},
		},
		{api.Head{Seq: 1 << 31}, []byte{0, 0, 0, 0, 0, 0, 0, 0, 0, 0, 0, 0, 0x80, 0, 0, 0, 0, 0, 0, 0}},
	} {
		if b := PutHead(c.h); !bytes.Equal(b, c.want) {
			t.Errorf("PutHead(%v) is % x, not % x", c.h, b, c.want)
		}
	}
}

// A head is told whatever its numbers are, but the byte behind the Age.
func TestGetHeadKnown(t *testing.T) {
	for _, c := range []struct {
		b    []byte
		want api.Head
	}{
		{make([]byte, 20), api.Head{}},
		{
			[]byte{1, 2, 0, 3, 4, 5, 6, 7, 8, 9, 10, 11, 12, 13, 14, 15, 16, 17, 18, 19},
			api.Head{Age: 0x0102, Kind: 3, Id: 0x04050607, Adv: 0x08090a0b, Seq: 0x0c0d0e0f, Sum: 0x1011, Len: 0x1213},
		},
		{
			[]byte{255, 255, 0, 255, 255, 255, 255, 255, 255, 255, 255, 255, 255, 255, 255, 255, 255, 255, 255, 255},
			api.Head{Age: 65535, Kind: 255, Id: 1<<32 - 1, Adv: 1<<32 - 1, Seq: -1, Sum: 65535, Len: 65535},
		},
		{
			[]byte{0, 0, 0, 0, 0, 0, 0, 0, 0, 0, 0, 0, 0x80, 0, 0, 0, 0, 0, 0, 0},
			api.Head{Seq: -1 << 31},
		},
		{
			[]byte{0, 0, 0, 0, 0, 0, 0, 0, 0, 0, 0, 0, 0x7f, 255, 255, 255, 0, 0, 0, 0},
			api.Head{Seq: api.LastSeq},
		},
	} {
		for _, ahead := range []int{0, 1, 7} {
			b := append(bytes.Repeat([]byte{9}, ahead), c.b...)
			for range 2 {
				if h, fine := GetHead(b, ahead); !fine || h != c.want {
					t.Errorf("GetHead of % x at %d is %v, %v, not %v", b, ahead, h, fine, c.want)
				}
				b = append(b, 9)
			}
		}
	}
}

func TestGetHeadOfNone(t *testing.T) {
	b := make([]byte, 30)
	for _, at := range []int{-1, -10, -20, -30, -31, 11, 12, 29, 30, 31, 1 << 32, math.MinInt, math.MinInt + 20, math.MaxInt, math.MaxInt - 19} {
		noHead(t, b, at)
		noHead(t, nil, at)
	}
	for n := range 20 {
		noHead(t, b[:n], 0)
	}
	for x := 1; x < 256; x++ {
		noHead(t, turned(laid(router()), 2, byte(x)), 0)
	}
	if _, fine := GetHead(b, 10); !fine {
		t.Error("the last 20 bytes are a head")
	}
}

func noHead(t *testing.T, b []byte, at int) {
	t.Helper()
	if h, fine := GetHead(b, at); fine || h != (api.Head{}) {
		t.Errorf("GetHead at %d of %d bytes: %v, %v", at, len(b), h, fine)
	}
}

func TestHeadsOfRights(t *testing.T) {
	for _, l := range rights() {
		b := laid(l)
		want := sealedByHand(l).Head
		if h, fine := GetHead(b, 0); !fine || h != want {
			t.Errorf("the head is %v, %v, not %v", h, fine, want)
		}
		if got := PutHead(want); !bytes.Equal(got, b[:20]) {
			t.Errorf("the head of %v is % x, not % x", l, got, b[:20])
		}
	}
}

func TestKeyOf(t *testing.T) {
	for _, n := range []int{0, 1, -1, 1 << 40, math.MinInt} {
		h := api.Head{Age: 9, Kind: n, Id: n + 1, Adv: n + 2, Seq: 8, Sum: 7, Len: 6}
		if k := KeyOf(h); k != (api.Key{Kind: n, Id: n + 1, Adv: n + 2}) {
			t.Errorf("KeyOf(%v) is %v", h, k)
		}
	}
}

// Of the head the Kind counts alone.
func TestBodyOfTheSame(t *testing.T) {
	for _, l := range append(rights(), wrongBodies()...) {
		other := with(l, func(l *api.Lsa) {
			l.Head = api.Head{Age: 99, Kind: l.Head.Kind, Id: 98, Adv: 97, Seq: 96, Sum: 95, Len: 94}
		})
		if !Body(l, other) || !Body(other, l) || !Body(l, l) {
			t.Errorf("%v has another body", other)
		}
	}
	empty := api.Lsa{Links: []api.Link{}, Routers: []int{}, Verts: []api.Vert{}}
	if !Body(empty, api.Lsa{}) || !Body(api.Lsa{}, empty) {
		t.Error("a nil list and an empty one are one")
	}
}

func TestBodyOfOthers(t *testing.T) {
	whole := api.Lsa{Flags: 1, Links: router().Links, Bits: 2, Routers: network().Routers, Verts: group().Verts}
	for _, kind := range []int{api.LsaRouter, api.LsaNetwork, api.LsaGroup, 0} {
		whole.Head.Kind = kind
		for i, f := range []func(*api.Lsa){
			func(l *api.Lsa) { l.Head.Kind = 3 },
			func(l *api.Lsa) { l.Flags++ },
			func(l *api.Lsa) { l.Links[2].Kind++ },
			func(l *api.Lsa) { l.Links[0].Id++ },
			func(l *api.Lsa) { l.Links[1].Data++ },
			func(l *api.Lsa) { l.Links[2].Cost++ },
			func(l *api.Lsa) { l.Links = l.Links[:2] },
			func(l *api.Lsa) { l.Links = nil },
			func(l *api.Lsa) { l.Links[0], l.Links[1] = l.Links[1], l.Links[0] },
			func(l *api.Lsa) { l.Bits++ },
			func(l *api.Lsa) { l.Routers[2]++ },
			func(l *api.Lsa) { l.Routers = l.Routers[:2] },
			func(l *api.Lsa) { l.Routers = append(l.Routers, 0) },
			func(l *api.Lsa) { slices.Reverse(l.Routers) },
			func(l *api.Lsa) { l.Verts[1].Kind++ },
			func(l *api.Lsa) { l.Verts[0].Id++ },
			func(l *api.Lsa) { l.Verts = nil },
			func(l *api.Lsa) { slices.Reverse(l.Verts) },
		} {
			other := with(whole, f)
			if Body(whole, other) || Body(other, whole) {
				t.Errorf("turn %d: %v has the same body", i, other)
			}
		}
	}
}

// 5.5

func TestGetOfPut(t *testing.T) {
	for _, l := range rights() {
		l = Seal(l)
		b, e := Put(l)
		if e != api.OK {
			t.Fatalf("Put(%v): %d", l, e)
		}
		if next := rightGet(t, b, 0, l); next != len(b) {
			t.Errorf("%v ends at %d, not %d", l, next, len(b))
		}
	}
}

func TestGetOfTurnedBits(t *testing.T) {
	for _, l := range rights() {
		b := laid(l)
		for at := 2; at < len(b); at++ {
			for bit := range 8 {
				c := turned(b, at, b[at]^1<<bit)
				got, next, e := Get(c, 0)
				if at == 18 || at == 19 {
					if e == api.OK && got.Head == sealedByHand(l).Head {
						t.Fatalf("bit %d of byte %d turned: the same head", bit, at)
					}
					continue
				}
				if e == api.OK || next != 0 || !same(got, api.Lsa{}) {
					t.Fatalf("bit %d of byte %d turned: %v, %d, %d", bit, at, got, next, e)
				}
			}
		}
	}
}

// The Age may turn: the sum leaves it out.
func TestGetOfTurnedAges(t *testing.T) {
	for _, l := range ordinary() {
		want := sealedByHand(l)
		for age := range 1 << 16 {
			b := laid(l)
			binary.BigEndian.PutUint16(b, uint16(age))
			if age > api.MaxAge {
				wrongGet(t, b, 0, api.ErrForm)
				continue
			}
			want.Head.Age = age
			rightGet(t, b, 0, want)
		}
	}
}

// Whatever Get takes, of bytes a little off a right advertisement's, Put tells so again.
func TestPutOfGet(t *testing.T) {
	taken := 0
	for _, l := range rights() {
		b := laid(l)
		for at := range min(len(b), 60) {
			for _, by := range []byte{0, 1, 4, 128, 255} {
				c := turned(b, at, b[at]+by)
				for _, c := range [][]byte{c, filled(c)} {
					got, next, e := Get(c, 0)
					if e != api.OK {
						continue
					}
					taken++
					if again, e := Put(got); e != api.OK || !bytes.Equal(again, c[:next]) {
						t.Fatalf("% x is told as % x, %d", c, again, e)
					}
				}
			}
		}
	}
	if taken == 0 {
		t.Error("Get took none")
	}
}

// R3

func TestWhatIsHandedInStays(t *testing.T) {
	for _, l := range append(rights(), wrongs()...) {
		was := clone(l)
		Right(l)
		sealed := Seal(l)
		Put(l)
		Put(sealed)
		Body(l, sealed)
		if !same(l, was) {
			t.Errorf("%v was changed to %v", was, l)
		}
	}
	for _, l := range rights() {
		b := append(laid(l), 1, 2, 3, 4)
		for range 2 {
			was := bytes.Clone(b)
			Get(b[:len(b)-4], 0)
			GetHead(b[:len(b)-4], 0)
			if !bytes.Equal(b, was) {
				t.Errorf("% x was changed to % x", was, b)
			}
			b[17] ^= 1
		}
	}
}

// spoil turns all of the memory of l's lists, spare room too.
func spoil(l api.Lsa) {
	links, routers, verts := l.Links[:cap(l.Links)], l.Routers[:cap(l.Routers)], l.Verts[:cap(l.Verts)]
	for i := range links {
		links[i] = api.Link{Kind: 77}
	}
	for i := range routers {
		routers[i] = 77
	}
	for i := range verts {
		verts[i] = api.Vert{Kind: 77}
	}
}

func spoilBytes(b []byte) {
	b = b[:cap(b)]
	for i := range b {
		b[i] ^= 0xff
	}
}

// roomy is l with lists that have spare room.
func roomy(l api.Lsa) api.Lsa {
	l.Links = append(make([]api.Link, 0, 99), l.Links...)
	l.Routers = append(make([]int, 0, 99), l.Routers...)
	l.Verts = append(make([]api.Vert, 0, 99), l.Verts...)
	return l
}

func TestSealIsNewMemory(t *testing.T) {
	for _, l := range append(rights(), wrongs()...) {
		l = roomy(l)
		was := clone(l)
		full := clone(api.Lsa{Links: l.Links[:99], Routers: l.Routers[:99], Verts: l.Verts[:99]})
		one, two := Seal(l), Seal(l)
		want := clone(two)
		spoil(one)
		if !same(l, was) || !same(two, want) || !same(full, api.Lsa{Links: l.Links[:99], Routers: l.Routers[:99], Verts: l.Verts[:99]}) {
			t.Errorf("what Seal(%v) told shares memory", was)
		}
		spoil(l)
		if !same(two, want) {
			t.Errorf("Seal kept the lists of %v", was)
		}
	}
}

func TestPutIsNewMemory(t *testing.T) {
	for _, l := range rights() {
		want := laid(l)
		one, _ := Put(sealedByHand(l))
		two, _ := Put(sealedByHand(l))
		spoilBytes(one)
		if !bytes.Equal(two, want) {
			t.Errorf("what Put(%v) told shares memory", l)
		}
		head, other := PutHead(l.Head), PutHead(l.Head)
		spoilBytes(head)
		if bytes.Equal(head, other) || !bytes.Equal(other, PutHead(l.Head)) {
			t.Errorf("what PutHead(%v) told shares memory", l.Head)
		}
	}
}

func TestGetIsNewMemory(t *testing.T) {
	for _, l := range rights() {
		want := sealedByHand(l)
		whole := append(laid(l), laid(l)...)
		was := bytes.Clone(whole)
		one, next, _ := Get(whole, 0)
		two, _, _ := Get(whole, next)
		spoil(one)
		if !bytes.Equal(whole, was) || !same(two, want) {
			t.Errorf("what Get told of %v shares memory", l)
		}
		spoilBytes(whole)
		if !same(two, want) {
			t.Errorf("Get kept the bytes of %v", l)
		}
	}
}

// What stands in the spare room of a list does not count.
func TestSpareRoomDoesNotCount(t *testing.T) {
	for _, l := range ordinary() {
		b := laid(l)
		wrongGet(t, b[:len(b)-1], 0, api.ErrShort)
		noHead(t, b[:19], 0)
	}
	l := with(router(), func(l *api.Lsa) { l.Links = many(99, api.Link{})[:0] })
	if !Right(l) || Seal(l).Head.Len != 24 {
		t.Error("links behind the end count")
	}
}

// R4: beside an error there is nothing, not even an empty list of something.
func TestNothingBesideAnError(t *testing.T) {
	for _, l := range ordinary() {
		b := laid(l)
		b[17] ^= 1
		if got, _, _ := Get(b, 0); !reflect.DeepEqual(got, api.Lsa{}) {
			t.Errorf("beside an error: %v", got)
		}
	}
}

// Ways

// A fault within tells which part it is of, and is found however deep it is wrapped.
func TestFaultsAreWrapped(t *testing.T) {
	sealed := laid(router())
	_, short := read(nil)
	_, cut := read(sealed[:30])
	_, length := read(turned(sealed, 19, 5))
	_, kind := read(turned(sealed, 3, 9))
	_, form := read(turned(sealed, 2, 1))
	_, flags := read([]byte{0, 0, 0, 1, 0, 0, 0, 1, 0, 0, 0, 1, 0, 0, 0, 0, 0, 0, 0, 20})
	_, mask := read([]byte{0, 0, 0, 2, 0, 0, 0, 1, 0, 0, 0, 1, 0, 0, 0, 0, 0, 0, 0, 20})
	_, sum := read(turned(sealed, 17, sealed[17]^1))
	for _, c := range []struct {
		err, is error
		text    string
		number  api.Errno
	}{
		{check(api.Lsa{}), errArg, "advertisement: something that may not be", api.ErrArg},
		{check(router()), errArg, "seal: something that may not be", api.ErrArg},
		{short, errShort, "head: bytes that end too soon", api.ErrShort},
		{cut, errShort, "body: bytes that end too soon", api.ErrShort},
		{length, errForm, "len: bytes that say nothing", api.ErrForm},
		{kind, errKind, "kind: a kind that is not known", api.ErrKind},
		{form, errForm, "advertisement: bytes that say nothing", api.ErrForm},
		{flags, errForm, "flags: bytes that say nothing", api.ErrForm},
		{mask, errForm, "mask: bytes that say nothing", api.ErrForm},
		{sum, errSum, "sum: a check sum that is not right", api.ErrSum},
	} {
		if c.err == nil || !errors.Is(c.err, c.is) || c.err.Error() != c.text {
			t.Errorf("%v, not %s", c.err, c.text)
		}
		if number(c.err) != c.number || number(wrap.Part("packet", c.err)) != c.number {
			t.Errorf("%v has the number %d, not %d", c.err, number(c.err), c.number)
		}
	}
	if e := number(nil); e != api.OK {
		t.Error("none:", e)
	}
}
