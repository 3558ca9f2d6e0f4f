package base

import (
	"math"
	"slices"
	"testing"

	"plenum/api"
	"plenum/lsa"
	"plenum/newer"
)

func TestTheExampleOfTheChapter(t *testing.T) {
	b := room(t, 4)
	puts(t, b, router(1, 1, 2, 0), api.OK)
	puts(t, b, router(1, 1, 1, 0), api.ErrOld)
	holds(t, b, router(1, 1, 2, 0))
}

func TestNewAsksForTheRoom(t *testing.T) {
	for _, most := range []int{math.MinInt, -512, -1, 0, api.MaxBase + 1, api.MaxBase + 2, 1 << 32, 1<<32 + 1, math.MaxInt} {
		if b, e := New(most); b != nil || e != api.ErrArg {
			t.Errorf("8.1: New(%d) = %v, %d, want nothing and ErrArg", most, b, e)
		}
	}
	for _, most := range []int{1, 2, 3, api.MaxBase - 1, api.MaxBase} {
		holds(t, room(t, most))
	}
}

// Each room takes just as many as it is for, and is then full.
func TestARoomIsFull(t *testing.T) {
	for _, most := range []int{1, 2, 3, 255, 256, api.MaxBase - 1, api.MaxBase} {
		b := room(t, most)
		var want []api.Lsa
		for i := range most {
			want = append(want, router(i+1, 1, 0, 0))
			puts(t, b, want[i], api.OK)
		}
		for _, l := range []api.Lsa{router(0, 1, 0, 0), router(most+1, 1, 0, 0), router(1, 2, 0, 0), group(1, 1, 9, 0)} {
			puts(t, b, l, api.ErrFull)
			hasNot(t, b, keyOf(l))
		}
		holds(t, b, want...)
	}
}

// Where most are there, those of their Keys are asked for nothing but which is
// newer; whatever goes leaves room for one.
func TestAFullRoomGoesOn(t *testing.T) {
	x, y, z := router(1, 1, 5, 0), network(2, 1, 5, 0, 7), group(3, 1, 5, 0, 8)
	b := filled(t, 2, x, y)
	puts(t, b, z, api.ErrFull)
	puts(t, b, router(1, 1, 4, 0), api.ErrOld)
	holds(t, b, x, y)

	newX, newY := router(1, 1, 6, 0, 3), network(2, 1, 5, 9, 7)
	puts(t, b, newX, api.OK)
	puts(t, b, newY, api.OK)
	holds(t, b, newX, newY)
	puts(t, b, z, api.ErrFull)

	drops(t, b, keyOf(z), false)
	puts(t, b, z, api.ErrFull)
	drops(t, b, keyOf(x), true)
	puts(t, b, z, api.OK)
	puts(t, b, x, api.ErrFull)
	holds(t, b, newY, z)
}

// wrongs are advertisements that are not right, sealed as well as they can be.
func wrongs() []api.Lsa {
	var all []api.Lsa
	for _, f := range []func(*api.Lsa){
		func(l *api.Lsa) { l.Head.Kind = 0 },
		func(l *api.Lsa) { l.Head.Kind = 3 },
		func(l *api.Lsa) { l.Head.Kind = math.MinInt },
		func(l *api.Lsa) { l.Head.Kind = math.MaxInt },
		func(l *api.Lsa) { l.Head.Kind += 256 },
		func(l *api.Lsa) { l.Head.Age = -1 },
		func(l *api.Lsa) { l.Head.Age = api.MaxAge + 1 },
		func(l *api.Lsa) { l.Head.Age += 65536 },
		func(l *api.Lsa) { l.Head.Id = -1 },
		func(l *api.Lsa) { l.Head.Id += 1 << 32 },
		func(l *api.Lsa) { l.Head.Adv = 0 },
		func(l *api.Lsa) { l.Head.Adv = -1 },
		func(l *api.Lsa) { l.Head.Adv += 1 << 32 },
		func(l *api.Lsa) { l.Head.Seq = api.FirstSeq - 1 },
		func(l *api.Lsa) { l.Head.Seq = api.LastSeq + 1 },
		func(l *api.Lsa) { l.Head.Seq += 1 << 32 },
		func(l *api.Lsa) { l.Flags = 256 },
		func(l *api.Lsa) { l.Flags = -1 },
		func(l *api.Lsa) { l.Bits = 33 },
		func(l *api.Lsa) { l.Bits = -1 },
		func(l *api.Lsa) { l.Links = slices.Repeat([]api.Link{{Kind: 1}}, api.MaxList+1) },
		func(l *api.Lsa) { l.Routers = slices.Repeat([]int{1}, api.MaxList+1) },
		func(l *api.Lsa) { l.Verts = slices.Repeat([]api.Vert{{Kind: 1}}, api.MaxList+1) },
		func(l *api.Lsa) { l.Links = []api.Link{{Kind: 4}} },
		func(l *api.Lsa) { l.Routers = []int{1 << 32} },
		func(l *api.Lsa) { l.Verts = []api.Vert{{Kind: 3}} },
	} {
		for _, l := range three() {
			wrong := with(l, f)
			all = append(all, wrong, lsa.Seal(wrong))
		}
	}
	for _, l := range three() {
		all = append(all, notOfItsKind(l))
	}
	return append(all, api.Lsa{})
}

// notOfItsKind is l with a part that another Kind has.
func notOfItsKind(l api.Lsa) api.Lsa {
	if l.Head.Kind == api.LsaGroup {
		return with(l, func(l *api.Lsa) { l.Flags = 1 })
	}
	return with(l, func(l *api.Lsa) { l.Verts = []api.Vert{{Kind: 1}} })
}

// unsealed are right ones with a Sum or a Len that is not theirs.
func unsealed() []api.Lsa {
	var all []api.Lsa
	for _, f := range []func(*api.Lsa){
		func(l *api.Lsa) { l.Head.Sum = 0 },
		func(l *api.Lsa) { l.Head.Sum++ },
		func(l *api.Lsa) { l.Head.Sum += 65536 },
		func(l *api.Lsa) { l.Head.Sum = -1 },
		func(l *api.Lsa) { l.Head.Sum = math.MaxInt },
		func(l *api.Lsa) { l.Head.Len = 0 },
		func(l *api.Lsa) { l.Head.Len-- },
		func(l *api.Lsa) { l.Head.Len += 65536 },
		func(l *api.Lsa) { l.Head.Len = math.MinInt },
		func(l *api.Lsa) { l.Head.Sum, l.Head.Len = 0, 0 },
		func(l *api.Lsa) { l.Head.Seq++ },
		func(l *api.Lsa) { l.Head.Id++ },
		func(l *api.Lsa) { l.Head.Adv++ },
	} {
		for _, l := range three() {
			all = append(all, with(l, f))
		}
	}
	return append(all,
		with(router(1, 5, 3, 7, 4), func(l *api.Lsa) { l.Links[0].Cost = 5 }),
		with(router(1, 5, 3, 7, 4), func(l *api.Lsa) { l.Links = nil }),
		with(network(1, 5, 3, 7, 4), func(l *api.Lsa) { l.Bits = 25 }),
		with(group(1, 5, 3, 7, 4), func(l *api.Lsa) { l.Verts[0].Id = 5 }),
	)
}

// three are ordinary ones, one of each Kind.
func three() []api.Lsa {
	return []api.Lsa{router(1, 5, 3, 7, 4, 9), network(1, 5, 3, 7, 4, 9), group(1, 5, 3, 7, 4, 9)}
}

// What is not right, or not sealed, is told first, whether there is a newer
// one, no room, or none of its Key; and nothing comes of it.
func TestOnlyWhatIsRightAndSealed(t *testing.T) {
	for _, l := range append(wrongs(), unsealed()...) {
		b := room(t, 9)
		puts(t, b, l, api.ErrArg)
		holds(t, b)
		hasNot(t, b, keyOf(l))

		b = filled(t, 9, three()...)
		puts(t, b, l, api.ErrArg)
		holds(t, b, three()...)

		late := []api.Lsa{router(1, 5, api.LastSeq, 0), network(1, 5, api.LastSeq, 0), group(1, 5, api.LastSeq, 0)}
		b = filled(t, 3, late...)
		puts(t, b, l, api.ErrArg)
		holds(t, b, late...)
	}
}

// Right ones at their ends are taken.
func TestRightEnds(t *testing.T) {
	for _, k := range []api.Key{{Kind: 1, Adv: 1}, {Kind: 2, Id: 1<<32 - 1, Adv: 1<<32 - 1}, {Kind: 6, Id: 1 << 31, Adv: 1 << 31}} {
		for _, seq := range []int{api.FirstSeq, -1, 0, 1, api.LastSeq} {
			for _, age := range []int{0, 1, api.MaxAge - 1, api.MaxAge} {
				holds(t, filled(t, 1, of(k, seq, age)), of(k, seq, age))
			}
		}
	}
	long := []api.Lsa{
		router(1, 1, 1, 1, slices.Repeat([]int{65535}, api.MaxList)...),
		network(1, 1, 1, 1, slices.Repeat([]int{1<<32 - 1}, api.MaxList)...),
		group(1, 1, 1, 1, slices.Repeat([]int{1<<32 - 1}, api.MaxList)...),
	}
	holds(t, filled(t, 3, long...), long...)
}

// pairs are two of one Key, the first one newer, and by what.
func pairs() []struct {
	by           string
	newer, older api.Lsa
} {
	great, less := router(1, 1, 5, 7, 4), router(1, 1, 5, 7, 9)
	if great.Head.Sum < less.Head.Sum {
		great, less = less, great
	}
	aged := func(l api.Lsa, age int) api.Lsa {
		l.Head.Age = age
		return l
	}
	return []struct {
		by           string
		newer, older api.Lsa
	}{
		{"Seq", router(1, 1, 2, 0), router(1, 1, 1, 0)},
		{"Seq", router(1, 1, 0, 0), router(1, 1, -1, 0)},
		{"Seq", router(1, 1, api.LastSeq, 0), router(1, 1, api.FirstSeq, 0)},
		{"Seq, against the Age", router(1, 1, 2, 3599), router(1, 1, 1, 3600)},
		{"Sum", great, less},
		{"Sum, against the Age", aged(great, 3599), aged(less, 0)},
		{"Sum, against the end of the Age", aged(great, 0), aged(less, 3600)},
		{"the end of the Age", router(1, 1, 5, 3600), router(1, 1, 5, 3599)},
		{"the end of the Age", router(1, 1, 5, 3600), router(1, 1, 5, 0)},
		{"the Age", router(1, 1, 5, 0), router(1, 1, 5, 901)},
		{"the Age", router(1, 1, 5, 2698), router(1, 1, 5, 3599)},
	}
}

func TestTheOlderIsRefused(t *testing.T) {
	for _, c := range pairs() {
		if newer.Cmp(c.newer.Head, c.older.Head) != 1 {
			t.Fatalf("%s: %+v is not newer than %+v", c.by, c.newer, c.older)
		}
		others := []api.Lsa{router(1, 2, 1, 0), network(1, 1, 1, 0)}
		b := filled(t, 3, append(others, c.newer)...)
		puts(t, b, c.older, api.ErrOld)
		holds(t, b, append(others, c.newer)...)

		b = filled(t, 3, append(others, c.older)...)
		puts(t, b, c.newer, api.OK)
		holds(t, b, append(others, c.newer)...)
	}
}

// What is neither newer nor older comes in place of the one that was, whichever
// of the two comes first: its Age, and its body, are there now.
func TestOneInstanceTakesThePlace(t *testing.T) {
	// A cost's low byte of 0 and one of 255 are one to the check sum.
	nought, full := router(1, 1, 5, 7, 0), router(1, 1, 5, 7, 255)
	if nought.Head != full.Head {
		t.Fatal("the heads are not one:", nought.Head, full.Head)
	}
	for _, c := range [][2]api.Lsa{
		{router(1, 1, 5, 7), router(1, 1, 5, 7)},
		{router(1, 1, 5, 0), router(1, 1, 5, 1)},
		{router(1, 1, 5, 0), router(1, 1, 5, 900)},
		{router(1, 1, 5, 2699), router(1, 1, 5, 3599)},
		{router(1, 1, 5, 3600), router(1, 1, 5, 3600)},
		{nought, full},
	} {
		for _, o := range orders(c[:]) {
			other := group(1, 1, 1, 0)
			b := filled(t, 2, other, o[0])
			puts(t, b, o[1], api.OK)
			holds(t, b, other, o[1])
		}
	}
}

func TestGetAndDrop(t *testing.T) {
	list := three()
	b := filled(t, 9, list...)
	for _, l := range list {
		k := keyOf(l)
		for _, other := range near(k) {
			hasNot(t, b, other)
			drops(t, b, other, false)
		}
	}
	holds(t, b, list...)
	for i, l := range list {
		drops(t, b, keyOf(l), true)
		hasNot(t, b, keyOf(l))
		drops(t, b, keyOf(l), false)
		holds(t, b, list[i+1:]...)
	}
	holds(t, b)
}

// near are Keys that are unlike k in one thing, and such as no right one is.
func near(k api.Key) []api.Key {
	return []api.Key{
		{Kind: k.Kind + 2, Id: k.Id, Adv: k.Adv},
		{Kind: k.Kind, Id: k.Id + 1, Adv: k.Adv},
		{Kind: k.Kind, Id: k.Id - 1, Adv: k.Adv},
		{Kind: k.Kind, Id: k.Id, Adv: k.Adv + 1},
		{Kind: k.Kind, Id: k.Id, Adv: k.Adv - 1},
		{Kind: k.Kind, Id: k.Adv, Adv: k.Id},
		{Kind: k.Kind, Id: k.Id + 1<<32, Adv: k.Adv},
		{Kind: k.Kind, Id: k.Id, Adv: k.Adv - 1<<32},
		{Kind: math.MinInt, Id: k.Id, Adv: k.Adv},
		{Kind: k.Kind, Id: math.MinInt, Adv: math.MaxInt},
		{Kind: k.Kind, Id: math.MaxInt, Adv: math.MinInt},
		{},
	}
}

// What was dropped is forgotten: an older one of its Key may come, and its
// room is free.
func TestDroppedIsForgotten(t *testing.T) {
	b := filled(t, 1, router(1, 1, 9, 0, 3))
	drops(t, b, api.Key{Kind: 1, Id: 1, Adv: 1}, true)
	holds(t, b)
	puts(t, b, router(1, 1, 1, 0), api.OK)
	holds(t, b, router(1, 1, 1, 0))
	drops(t, b, api.Key{Kind: 1, Id: 1, Adv: 1}, true)
	puts(t, b, group(2, 2, 1, 0), api.OK)
	holds(t, b, group(2, 2, 1, 0))
}

// Kind tells ahead of Id, Id ahead of Adv, all as numbers, in whatever order
// they are put.
func TestTheOrder(t *testing.T) {
	rising := []api.Key{
		{Kind: 1, Id: 9, Adv: 9}, {Kind: 2, Id: 1, Adv: 10}, {Kind: 2, Id: 2, Adv: 1},
		{Kind: 2, Id: 2, Adv: 1<<32 - 1}, {Kind: 2, Id: 1 << 31, Adv: 2}, {Kind: 6, Id: 0, Adv: 1},
	}
	for _, o := range orders(rising) {
		b := room(t, len(rising))
		for i, k := range o {
			puts(t, b, of(k, i, 0), api.OK)
		}
		var all, heads []api.Key
		for _, l := range b.All() {
			all = append(all, keyOf(l))
		}
		for _, h := range b.Heads() {
			heads = append(heads, api.Key{Kind: h.Kind, Id: h.Id, Adv: h.Adv})
		}
		if !slices.Equal(all, rising) || !slices.Equal(heads, rising) {
			t.Fatalf("8.1: put in the order %v: All %v, Heads %v", o, all, heads)
		}
	}
}

func TestEmpty(t *testing.T) {
	b := room(t, 3)
	for range 2 {
		holds(t, b)
		holds(t, b.Copy())
		hasNot(t, b, api.Key{})
		hasNot(t, b, api.Key{Kind: 1, Id: 1, Adv: 1})
		drops(t, b, api.Key{}, false)
		drops(t, b, api.Key{Kind: 1, Id: 1, Adv: 1}, false)
		puts(t, b, router(1, 1, 1, 0), api.OK)
		drops(t, b, api.Key{Kind: 1, Id: 1, Adv: 1}, true)
	}
}

// A copy is the same, with its room, and from then on each goes its own way.
func TestCopy(t *testing.T) {
	list := three()
	for _, swap := range []bool{false, true} {
		one := filled(t, 4, list...)
		other := one.Copy()
		holds(t, other, list...)
		if swap {
			one, other = other, one
		}
		late, far := group(1, 5, 4, 0, 1), router(7, 7, 7, 0)
		puts(t, one, late, api.OK)
		holds(t, other, list...)
		drops(t, one, keyOf(list[0]), true)
		holds(t, other, list...)
		puts(t, one, far, api.OK)
		holds(t, other, list...)
		hasNot(t, other, keyOf(far))

		puts(t, other, network(8, 8, 8, 0), api.OK)
		puts(t, other, far, api.ErrFull)
		puts(t, other, group(1, 5, 2, 0), api.ErrOld)
		drops(t, other, keyOf(list[1]), true)
		holds(t, one, list[1], late, far)
		puts(t, one, network(8, 8, 8, 0), api.OK)
		puts(t, one, network(9, 9, 9, 0), api.ErrFull)
	}
}

func TestACopyHasTheRoom(t *testing.T) {
	for _, most := range []int{1, 2, api.MaxBase} {
		b := room(t, most).Copy().Copy()
		for i := range most {
			puts(t, b, router(i, 1, 0, 0), api.OK)
		}
		puts(t, b, router(most, 1, 0, 0), api.ErrFull)
		puts(t, b.Copy(), router(most, 1, 0, 0), api.ErrFull)
	}
}

// Methods of nil

func TestNil(t *testing.T) {
	var b *Base
	for _, l := range append(three(), api.Lsa{}) {
		puts(t, b, l, api.ErrNone)
		hasNot(t, b, keyOf(l))
		drops(t, b, keyOf(l), false)
	}
	if all, heads := b.All(), b.Heads(); len(all) != 0 || len(heads) != 0 || b.Len() != 0 {
		t.Errorf("8.1: of nil: All %v, Heads %v, Len %d", all, heads, b.Len())
	}
	if c := b.Copy(); c != nil {
		t.Errorf("8.1: Copy of nil: %v", c)
	}
}

// R1: one that New did not make has room for none, and does not panic.
func TestZeroValue(t *testing.T) {
	var b Base
	puts(t, &b, router(1, 1, 1, 0), api.ErrFull)
	puts(t, &b, api.Lsa{}, api.ErrArg)
	holds(t, &b)
	holds(t, b.Copy())
	hasNot(t, &b, api.Key{})
	drops(t, &b, api.Key{}, false)
}

// What follows

// instances are some of one Key, of several Seqs and Sums, and the one that
// 8.2 says stays.
func instances(id int) (all []api.Lsa, stays api.Lsa) {
	for _, seq := range []int{-1, 0, api.LastSeq} {
		for _, v := range []int{4, 9} {
			l := group(id, 1, seq, id, v)
			all = append(all, l)
			if len(all) == 1 || above(l.Head, stays.Head) {
				stays = l
			}
		}
	}
	return all, stays
}

// above says 8.2's order: by Seq, then by Sum.
func above(a, b api.Head) bool {
	return a.Seq > b.Seq || a.Seq == b.Seq && a.Sum > b.Sum
}

func TestTheGreatestStays(t *testing.T) {
	low, lowStays := instances(1)
	high, highStays := instances(2)
	for _, o := range orders([]int{0, 1, 2, 3, 4, 5}) {
		b := room(t, 2)
		for i, n := range o {
			b.Put(low[n])
			b.Put(high[o[len(o)-1-i]])
		}
		holds(t, b, lowStays, highStays)
		if t.Failed() {
			t.Fatalf("8.2: in the order %v", o)
		}
	}
}

// Ages turn nothing of which Seq and Sum stay.
func TestTheGreatestStaysWhateverItsAge(t *testing.T) {
	all, stays := instances(1)
	for _, age := range []int{0, 900, 901, 1800, 3599, 3600} {
		for _, other := range []int{0, 900, 901, 1800, 3599, 3600} {
			for i := range all {
				b := room(t, 1)
				for n := range all {
					l := all[(i+n)%len(all)]
					l.Head.Age = other
					if !above(stays.Head, l.Head) {
						l.Head.Age = age
					}
					b.Put(l)
				}
				want := stays
				want.Head.Age = age
				holds(t, b, want)
			}
		}
	}
}

// R3

// spoil writes into every list of l, as far as there is room.
func spoil(l api.Lsa) {
	for i := range l.Links[:cap(l.Links)] {
		l.Links[:cap(l.Links)][i] = api.Link{Kind: 99}
	}
	for i := range l.Routers[:cap(l.Routers)] {
		l.Routers[:cap(l.Routers)][i] = 99
	}
	for i := range l.Verts[:cap(l.Verts)] {
		l.Verts[:cap(l.Verts)][i] = api.Vert{Kind: 99}
	}
}

// roomy is l with spare room behind each of its lists.
func roomy(l api.Lsa) api.Lsa {
	l.Links = append(make([]api.Link, 0, 9), l.Links...)
	l.Routers = append(make([]int, 0, 9), l.Routers...)
	l.Verts = append(make([]api.Vert, 0, 9), l.Verts...)
	return l
}

// What is handed in is neither changed nor kept, whether it is new, comes in
// place of another, or is refused.
func TestWhatIsHandedInIsNotKept(t *testing.T) {
	for _, l := range three() {
		for _, before := range [][]api.Lsa{nil, {of(keyOf(l), 2, 0)}, {l}} {
			b := filled(t, 1, before...)
			in := roomy(l)
			puts(t, b, in, api.OK)
			if !same(in, l) {
				t.Errorf("R3: Put made of %+v %+v", l, in)
			}
			spoil(in)
			holds(t, b, l)
		}
		late := of(keyOf(l), 4, 0)
		b := filled(t, 1, late)
		in := roomy(l)
		puts(t, b, in, api.ErrOld)
		spoil(in)
		holds(t, b, late)
	}
}

// Who writes into what was told, or appends to it, changes neither what is
// kept nor what else was told.
func TestWhatIsToldIsNewMemory(t *testing.T) {
	list := three()
	b := filled(t, 9, list...)
	first, second := b.All(), b.All()
	heads, again := b.Heads(), b.Heads()
	c := b.Copy()
	for _, l := range list {
		one, _ := b.Get(keyOf(l))
		other, _ := b.Get(keyOf(l))
		spoil(one)
		if !same(other, l) {
			t.Errorf("R3: two answers of Get share memory: %+v", other)
		}
	}
	for i := range first {
		spoil(first[i])
		for _, l := range first[i+1:] {
			if !slices.ContainsFunc(list, func(x api.Lsa) bool { return same(x, l) }) {
				t.Errorf("R3: lists of one answer share memory: %+v", l)
			}
		}
	}
	clear(first[:cap(first)])
	clear(heads[:cap(heads)])
	if !slices.EqualFunc(second, list, same) || !slices.Equal(again, headsOf(list)) {
		t.Errorf("R3: two answers share memory: %+v, %+v", second, again)
	}
	holds(t, b, list...)
	holds(t, c, list...)
	_, _ = append(second, api.Lsa{}), append(again, api.Head{})
	holds(t, b, list...)
	puts(t, b, router(7, 7, 7, 0), api.OK)
	holds(t, c, list...)
}

// What was told stays, whatever is put and dropped afterwards.
func TestWhatWasToldStays(t *testing.T) {
	list := three()
	b := filled(t, 9, list...)
	all, heads := b.All(), b.Heads()
	one, _ := b.Get(keyOf(list[1]))
	for _, l := range list {
		puts(t, b, of(keyOf(l), 9, 0), api.OK)
	}
	puts(t, b, router(0, 1, 1, 0), api.OK)
	for _, l := range list {
		drops(t, b, keyOf(l), true)
	}
	if !slices.EqualFunc(all, list, same) || !slices.Equal(heads, headsOf(list)) || !same(one, list[1]) {
		t.Errorf("R3: what was told became %+v, %+v, %+v", all, heads, one)
	}
}

// Asking changes nothing; the same calls on two tell the same (R5).
func TestAskingChangesNothing(t *testing.T) {
	one, other := filled(t, 3, three()...), filled(t, 3, three()...)
	for range 3 {
		one.All()
		one.Heads()
		one.Len()
		one.Get(api.Key{Kind: 1, Id: 1, Adv: 5})
		one.Get(api.Key{})
		one.Copy().Drop(api.Key{Kind: 1, Id: 1, Adv: 5})
	}
	holds(t, one, other.All()...)
	puts(t, one, router(9, 9, 9, 0), api.ErrFull)
}

// All of it

// A long run of calls, held after each one against a list that is gone through
// from its beginning.
func TestALongRun(t *testing.T) {
	const most = 12
	b, model := room(t, most), []api.Lsa(nil)
	var n uint32 = 1
	next := func(below int) int {
		n = n*1664525 + 1013904223
		return int(n>>8) % below
	}
	for range 6000 {
		k := api.Key{Kind: []int{1, 2, 6}[next(3)], Id: next(3), Adv: 1 + next(3)}
		l := of(k, next(3), []int{0, 800, 1700, 3600}[next(4)])
		at := slices.IndexFunc(model, func(x api.Lsa) bool { return keyOf(x) == k })
		switch {
		case next(4) == 0:
			drops(t, b, k, at >= 0)
			if at >= 0 {
				model = slices.Delete(model, at, at+1)
			}
		case at >= 0 && newer.Cmp(model[at].Head, l.Head) == 1:
			puts(t, b, l, api.ErrOld)
		case at >= 0:
			puts(t, b, l, api.OK)
			model[at] = l
		case len(model) == most:
			puts(t, b, l, api.ErrFull)
		default:
			puts(t, b, l, api.OK)
			model = append(model, l)
		}
		if next(9) == 0 {
			b = b.Copy()
		}
		holds(t, b, model...)
		if t.Failed() {
			t.FailNow()
		}
	}
}

// Ways

// What is kept is kept in order, ahead of any asking.
func TestKeptInOrder(t *testing.T) {
	for _, o := range orders([]int{1, 2, 3, 4, 5}) {
		b := room(t, 5)
		for _, id := range o {
			puts(t, b, router(id, 1, 1, 0), api.OK)
			if !slices.IsSortedFunc(b.list, byKey) {
				t.Fatalf("put in the order %v: kept as %v", o, headsOf(b.list))
			}
		}
		drops(t, b, api.Key{Kind: 1, Id: 3, Adv: 1}, true)
		if len(b.list) != 4 || !slices.IsSortedFunc(b.list, byKey) {
			t.Fatalf("after Drop: kept as %v", headsOf(b.list))
		}
	}
}

// Halving passes by what does not stand on its side; going through from the
// beginning, or from the end, would find it.
func TestSoughtByHalving(t *testing.T) {
	b := &Base{most: 9}
	for _, id := range []int{9, 8, 7, 5, 3, 2, 1} {
		b.list = append(b.list, router(id, 1, 1, 0))
	}
	for _, id := range []int{9, 8, 7, 3, 2, 1} {
		hasNot(t, b, api.Key{Kind: 1, Id: id, Adv: 1})
	}
}

// Rule 8: what was dropped is kept nowhere.
func TestNothingIsLeftBehind(t *testing.T) {
	b := filled(t, 3, three()...)
	for _, l := range three() {
		drops(t, b, keyOf(l), true)
	}
	for _, l := range b.list[:cap(b.list)] {
		if l.Links != nil || l.Routers != nil || l.Verts != nil {
			t.Errorf("behind the end: %+v", l)
		}
	}
}
