package near

import (
	"math"
	"slices"
	"testing"

	"plenum/api"
)

// Hear

func TestTheExampleOfTheChapter(t *testing.T) {
	if l := Hear(nil, hello(7), 70, 2); len(l) != 1 {
		t.Errorf("11.1: Hear of a first one = %+v", l)
	}
}

// A first one is all that there is then, whether there is no list or an empty
// one; what it says of itself stands where the chapter has it, and DeadTicks are
// left.
func TestAFirstOne(t *testing.T) {
	p := api.Packet{Kind: api.PackHello, Router: 7, Bits: 24, Prio: 3, Dr: 4, Bdr: 5, Seen: []int{2}}
	want := []api.Near{{Id: 7, Addr: 70, Prio: 3, Dr: 4, Bdr: 5, Two: true, Left: 16}}
	for _, l := range [][]api.Near{nil, {}, make([]api.Near, 0, 5)} {
		if got := Hear(l, p, 70, 2); !slices.Equal(got, want) {
			t.Errorf("11.1: Hear of a first one = %+v, want %+v", got, want)
		}
	}
	hears(t, nil, p, 70, 2, want...)
	hears(t, nil, api.Packet{Kind: api.PackHello, Router: 7}, 0, 2, api.Near{Id: 7, Left: 16})
	hears(t, nil, hello(0), 0, 2, one(0, 16, false))
}

// Two hangs on whether self is among Seen, wherever it stands there; not on who
// else is, nor on whether the Router itself is.
func TestTwo(t *testing.T) {
	for _, c := range []struct {
		seen []int
		self int
		two  bool
	}{
		{nil, 2, false},
		{[]int{}, 2, false},
		{[]int{2}, 2, true},
		{[]int{3}, 2, false},
		{[]int{7}, 2, false},
		{[]int{20}, 2, false},
		{[]int{2, 3, 4}, 2, true},
		{[]int{1, 2, 3}, 2, true},
		{[]int{9, 5, 2}, 2, true},
		{[]int{2, 2}, 2, true},
		{[]int{1, 3, 4, 7}, 2, false},
		{[]int{0}, 2, false},
		{nil, 0, false},
		{[]int{0}, 0, true},
		{[]int{-2}, 2, false},
		{[]int{-2}, -2, true},
		{[]int{2 + 1<<32}, 2, false},
		{[]int{2}, 2 + 1<<32, false},
		{[]int{math.MaxInt}, math.MaxInt, true},
		{[]int{math.MinInt}, math.MinInt, true},
	} {
		hears(t, nil, hello(7, c.seen...), 70, c.self, one(7, 16, c.two))
		hears(t, []api.Near{one(7, 1, !c.two)}, hello(7, c.seen...), 70, c.self, one(7, 16, c.two))
	}
}

// One that is heard again, and says something else: what it says now counts, in
// each part of it, and of what it said nothing is left.
func TestHeardAgain(t *testing.T) {
	was := api.Near{Id: 7, Addr: 70, Prio: 3, Dr: 4, Bdr: 5, Two: true, Left: 9}
	p := api.Packet{Kind: api.PackHello, Router: 7, Prio: 3, Dr: 4, Bdr: 5, Seen: []int{2}}
	now := with(was, func(n *api.Near) { n.Left = 16 })
	hears(t, []api.Near{was}, p, 70, 2, now)
	for _, c := range []struct {
		says func(*api.Packet)
		is   func(*api.Near)
	}{
		{func(p *api.Packet) { p.Prio = 0 }, func(n *api.Near) { n.Prio = 0 }},
		{func(p *api.Packet) { p.Prio = 255 }, func(n *api.Near) { n.Prio = 255 }},
		{func(p *api.Packet) { p.Dr = 0 }, func(n *api.Near) { n.Dr = 0 }},
		{func(p *api.Packet) { p.Dr = 70 }, func(n *api.Near) { n.Dr = 70 }},
		{func(p *api.Packet) { p.Bdr = 0 }, func(n *api.Near) { n.Bdr = 0 }},
		{func(p *api.Packet) { p.Bdr = 70 }, func(n *api.Near) { n.Bdr = 70 }},
		{func(p *api.Packet) { p.Dr, p.Bdr = p.Bdr, p.Dr }, func(n *api.Near) { n.Dr, n.Bdr = n.Bdr, n.Dr }},
		{func(p *api.Packet) { p.Seen = nil }, func(n *api.Near) { n.Two = false }},
		{func(p *api.Packet) { p.Seen = []int{3} }, func(n *api.Near) { n.Two = false }},
		{func(p *api.Packet) { p.Bits = 30 }, func(n *api.Near) {}},
	} {
		q := p
		c.says(&q)
		hears(t, []api.Near{was}, q, 70, 2, with(now, c.is))
		hears(t, []api.Near{with(was, c.is)}, p, 70, 2, now)
	}
	for _, left := range []int{17, 16, 15, 2, 1, 0, -1, math.MinInt, math.MaxInt} {
		hears(t, []api.Near{with(was, func(n *api.Near) { n.Left = left })}, p, 70, 2, now)
	}
}

// The same Id under another address is the same one, there now; another Id
// under the same address is another one.
func TestAnotherAddress(t *testing.T) {
	l := []api.Near{one(3, 5, true), one(7, 5, true), one(9, 5, false)}
	moved := with(one(7, 16, true), func(n *api.Near) { n.Addr = 71 })
	hears(t, l, hello(7, 2), 71, 2, l[0], moved, l[2])
	hears(t, []api.Near{l[0], moved, l[2]}, hello(7), 70, 2, l[0], one(7, 16, false), l[2])
	other := with(one(8, 16, false), func(n *api.Near) { n.Addr = 70 })
	hears(t, l, hello(8), 70, 2, l[0], l[1], other, l[2])
}

// One comes ahead of all, between two, behind all, or is one of them: it stands
// where its Id rises, and the others are as they were.
func TestWhereItComes(t *testing.T) {
	l := []api.Near{one(10, 3, true), one(20, -4, false), one(30, 99, true), one(40, 1, false)}
	for id := 5; id <= 45; id++ {
		at := 0
		for at < len(l) && l[at].Id < id {
			at++
		}
		behind := l[at:]
		if id%10 == 0 && at < len(l) {
			behind = l[at+1:]
		}
		want := slices.Concat(l[:at], []api.Near{one(id, 16, true)}, behind)
		hears(t, l, hello(id, 1, 2), 10*id, 2, want...)
	}
}

// Ids rise as the numbers that they are, with all of their bits, and below 0.
func TestIdsOfAllSizes(t *testing.T) {
	ids := []int{math.MinInt, -1 << 32, -1, 0, 1, 1<<31 - 1, 1 << 31, 1<<32 - 1, 1 << 32, 1<<32 + 1, math.MaxInt}
	at := func(id int) api.Near { return api.Near{Id: id, Addr: 5, Left: 16} }
	for i, id := range ids {
		var others, all []api.Near
		for j, other := range ids {
			all = append(all, at(other))
			if j != i {
				others = append(others, at(other))
			}
		}
		p := api.Packet{Kind: api.PackHello, Router: id}
		hears(t, others, p, 5, 2, all...)
		hears(t, all, p, 5, 2, all...)
		hears(t, all, p, 5, id, all...)
		slices.Reverse(others)
		hears(t, others, p, 5, 2, all...)
		sees(t, others, slices.Delete(slices.Clone(ids), i, i+1)...)
	}
}

// Numbers that no address and no Prio is stand as they are said.
func TestNumbersOfAllSizes(t *testing.T) {
	for _, n := range []int{math.MinInt, -1, 0, 1, 256, 1 << 32, math.MaxInt} {
		p := api.Packet{Kind: api.PackHello, Router: 7, Prio: n, Dr: n, Bdr: n}
		hears(t, nil, p, n, 2, api.Near{Id: 7, Addr: n, Prio: n, Dr: n, Bdr: n, Left: 16})
	}
}

// A hello of self turns nothing, whatever it says, whether there is one with
// self's Id or not.
func TestAHelloOfSelf(t *testing.T) {
	l := []api.Near{one(3, 2, true), one(7, 0, false)}
	for _, self := range []int{0, 1, 3, 5, 7, 9, -1, math.MaxInt} {
		hears(t, nil, hello(self, self), 70, self)
		hears(t, l, hello(self), 70, self, l...)
		hears(t, l, hello(self, self, 3, 7), 71, self, l...)
	}
}

// A packet that is no hello turns nothing, whatever else it says.
func TestNoHello(t *testing.T) {
	l := []api.Near{one(3, 2, true), one(7, 0, false)}
	for _, kind := range []int{math.MinInt, -1, 0, api.PackDesc, api.PackAsk, api.PackUpdate, api.PackAck, 6, 1 + 1<<32, math.MaxInt} {
		for _, router := range []int{2, 3, 5, 7, 9} {
			p := hello(router, 2)
			p.Kind = kind
			hears(t, nil, p, 70, 2)
			hears(t, l, p, 70, 2, l...)
		}
	}
}

// Of a hello nothing but what the chapter names counts.
func TestWhatElseAPacketSays(t *testing.T) {
	p := hello(7, 2)
	p.Bits, p.Flags, p.Seq = -5, 7, 99
	p.Heads, p.Keys, p.Lsas = []api.Head{{Adv: 2}}, []api.Key{{Adv: 2}}, []api.Lsa{{Flags: 1}}
	hears(t, nil, p, 70, 2, one(7, 16, true))
	p.Seen = []int{7}
	hears(t, nil, p, 70, 2, one(7, 16, false))
}

// Fade

func TestFadeOfNothing(t *testing.T) {
	for _, l := range [][]api.Near{nil, {}} {
		if now, gone := Fade(l); len(now) != 0 || len(gone) != 0 {
			t.Errorf("11.1: Fade of nothing = %+v, %v", now, gone)
		}
	}
}

// Left is one less of each one, and nothing else of it is turned.
func TestLeftIsOneLess(t *testing.T) {
	for _, left := range []int{2, 3, 15, 16, 17, 1 << 32, math.MaxInt} {
		for _, two := range []bool{false, true} {
			fades(t, []api.Near{one(7, left, two)}, []api.Near{one(7, left-1, two)})
		}
	}
	fades(t, lefts(16, 2, 9), lefts(15, 1, 8))
}

// Who has 2 left stays; who has 1 goes, or has 0, or fewer, down to the least
// number.
func TestWhoGoes(t *testing.T) {
	for _, left := range []int{1, 0, -1, -2, -16, -1 << 32, math.MinInt + 1, math.MinInt} {
		fades(t, []api.Near{one(7, left, true)}, nil, 7)
		fades(t, lefts(left, 2, left), lefts(1, 1, 1)[1:2], 1, 3)
		fades(t, lefts(2, left, 16), slices.Delete(lefts(1, 1, 15), 1, 2), 2)
	}
	fades(t, []api.Near{one(7, 2, true)}, []api.Near{one(7, 1, true)})
}

// Which Ids go, and in what order: all subsets of a few, by rising Id, whatever
// the order in which they are handed in.
func TestInWhatOrderTheyGo(t *testing.T) {
	for set := range 16 {
		var l, now []api.Near
		var gone []int
		for i := range 4 {
			if set>>i&1 == 1 {
				l = append(l, one(3*i+1, 1-i, i == 2))
				gone = append(gone, 3*i+1)
			} else {
				l = append(l, one(3*i+1, 5+i, i == 2))
				now = append(now, one(3*i+1, 4+i, i == 2))
			}
		}
		for _, o := range orders(l) {
			fades(t, o, now, gone...)
		}
	}
}

// Cands, Seen

func TestNobodyIsHeard(t *testing.T) {
	for _, l := range [][]api.Near{nil, {}} {
		if c, ids := Cands(l), Seen(l); len(c) != 0 || len(ids) != 0 {
			t.Errorf("11.2: of nothing: %+v, %v", c, ids)
		}
	}
}

// Who has Two is a candidate, with what it says of itself.
func TestWhatACandSays(t *testing.T) {
	n := api.Near{Id: 7, Addr: 70, Prio: 3, Dr: 4, Bdr: 5, Two: true, Left: 16}
	cands(t, []api.Near{n}, api.Cand{Id: 7, Addr: 70, Prio: 3, Dr: 4, Bdr: 5})
	cands(t, []api.Near{{Two: true}}, api.Cand{})
	cands(t, []api.Near{with(n, func(n *api.Near) { n.Two = false })})
}

// Who has no Two is none, and is seen all the same: all subsets of a few, by
// rising Id, whatever the order in which they are handed in. What is left of one
// counts nothing, nor its Prio.
func TestWhoIsACand(t *testing.T) {
	for set := range 16 {
		var l []api.Near
		var want []api.Cand
		for i := range 4 {
			two := set>>i&1 == 1
			l = append(l, api.Near{Id: 2 * i, Addr: 9 - i, Prio: i - 1, Dr: i, Bdr: -i, Two: two, Left: 2 - i})
			if two {
				want = append(want, api.Cand{Id: 2 * i, Addr: 9 - i, Prio: i - 1, Dr: i, Bdr: -i})
			}
		}
		for _, o := range orders(l) {
			cands(t, o, want...)
			sees(t, o, 0, 2, 4, 6)
		}
	}
}

// Lists that do not rise

// Of an Id that stands more than once the last one counts, in each call, and be
// it the one that goes, or has no Two.
func TestTheLastOneOfAnId(t *testing.T) {
	a, b, c := one(7, 9, true), with(one(7, 2, false), func(n *api.Near) { n.Addr = 71 }), one(7, 1, true)
	cand := api.Cand{Id: 7, Addr: 70, Prio: 8, Dr: 9, Bdr: 10}
	faded := with(b, func(n *api.Near) { n.Left = 1 })

	fades(t, []api.Near{a, b}, []api.Near{faded})
	fades(t, []api.Near{c, b}, []api.Near{faded})
	fades(t, []api.Near{b, c}, nil, 7)
	fades(t, []api.Near{c, c, c}, nil, 7)
	fades(t, []api.Near{a, c, b, a}, []api.Near{one(7, 8, true)})
	cands(t, []api.Near{a, b})
	cands(t, []api.Near{b, a}, cand)
	cands(t, []api.Near{a, a, a}, cand)
	sees(t, []api.Near{a, b, c, b}, 7)
	hears(t, []api.Near{a, b}, hello(9), 90, 2, b, one(9, 16, false))
	hears(t, []api.Near{b, a}, hello(3), 30, 2, one(3, 16, false), a)
	hears(t, []api.Near{a, b, c}, hello(7, 2), 70, 2, one(7, 16, true))
	hears(t, []api.Near{b, c, a}, hello(2), 20, 2, a)
	hears(t, []api.Near{c, a, b}, api.Packet{Kind: api.PackAck, Router: 9}, 90, 2, b)
}

// The last one counts among others too, ahead of, between and behind which its
// like stand.
func TestTheLastOneAmongOthers(t *testing.T) {
	low, high := one(3, 5, true), one(9, 1, true)
	was, is := one(7, 1, true), one(7, 6, false)
	for _, l := range [][]api.Near{
		{was, is, low, high}, {was, low, is, high}, {was, low, high, is}, {low, was, is, high},
		{high, was, low, is}, {high, low, was, is}, {was, high, is, low}, {high, was, is, low},
		{low, high, was, low, high, is}, {high, high, was, was, is, low, low},
	} {
		fades(t, l, []api.Near{one(3, 4, true), one(7, 5, false)}, 9)
		sees(t, l, 3, 7, 9)
		cands(t, l, candsAnew([]api.Near{low, high})...)
		hears(t, l, hello(8), 80, 2, low, is, one(8, 16, false), high)
		hears(t, l, hello(9), 90, 2, low, is, one(9, 16, false))
		hears(t, l, hello(7, 2), 70, 2, low, one(7, 16, true), high)
		hears(t, l, hello(2), 20, 2, low, is, high)
		hears(t, l, api.Packet{Router: 8}, 80, 2, low, is, high)
	}
}

// Long lists, with each Id many times: sorting may turn round nothing of one Id.
func TestLongLists(t *testing.T) {
	const ids, times = 50, 40
	var l, last []api.Near
	for i := range ids * times {
		l = append(l, one(i*37%ids, i+2, i%3 == 0))
	}
	for id := range ids {
		i := slices.IndexFunc(l[ids*(times-1):], func(n api.Near) bool { return n.Id == id })
		last = append(last, l[ids*(times-1)+i])
	}
	hears(t, l, api.Packet{}, 0, 2, last...)
	hears(t, l, hello(25), 250, 2, slices.Concat(last[:25], []api.Near{one(25, 16, false)}, last[26:])...)
	againstAnew(t, l)
	slices.Reverse(l)
	againstAnew(t, l)
}

// A list of many, in falling order, is told as quickly as one that rises.
func TestAFallingList(t *testing.T) {
	const many = 200000
	l := make([]api.Near, many)
	for i := range l {
		l[i] = one(many-i, 16, true)
	}
	for i, id := range Seen(l) {
		if id != i+1 {
			t.Fatalf("11.2: Seen tells %d at %d", id, i)
		}
	}
	if got := Hear(l, hello(many+1), 0, 2); len(got) != many+1 || got[many].Id != many+1 || got[0].Id != 1 {
		t.Errorf("11.1: Hear of one more than %d", many)
	}
}

// All lists of up to four that a few neighbors can make, and drawn ones of many
// lengths, held against the promises said anew.
func TestAllOfAFew(t *testing.T) {
	few := []api.Near{one(1, 1, true), one(1, 3, false), one(2, 0, false), one(2, 2, true), one(3, 16, true)}
	packets := []api.Packet{hello(1, 5), hello(2), hello(5, 5), hello(0, 5), hello(9), {Kind: api.PackAsk, Router: 1}}
	lists := [][]api.Near{nil}
	for from := 0; len(lists[from]) < 4; from++ {
		for _, n := range few {
			lists = append(lists, slices.Concat(lists[from], []api.Near{n}))
		}
	}
	for _, l := range lists {
		againstAnew(t, l)
		for _, p := range packets {
			hears(t, l, p, 44, 5, hearAnew(l, p, 44, 5)...)
		}
	}
}

func TestDrawn(t *testing.T) {
	var d draw
	for n := range 5000 {
		ids := 3 + d.below(20)
		l, p, addr, self := d.list(n%30, ids), d.packet(ids), d.below(9), d.below(ids)-2
		againstAnew(t, l)
		hears(t, l, p, addr, self, hearAnew(l, p, addr, self)...)
		if t.Failed() {
			return
		}
	}
}

// R1, R5: the same calls tell the same.
func TestTheSameAgain(t *testing.T) {
	var d draw
	for range 200 {
		l, p := d.list(12, 8), d.packet(8)
		for range 3 {
			againstAnew(t, l)
			hears(t, l, p, 5, 1, hearAnew(l, p, 5, 1)...)
		}
	}
}

// R3: who appends to what was told turns nothing of what else was told.
func TestSpareRoom(t *testing.T) {
	l := []api.Near{one(3, 5, true), one(7, 1, true), one(9, 5, true)}
	heard, other := Hear(l, hello(8), 80, 2), Hear(l, hello(2), 20, 2)
	now, gone := Fade(heard)
	told, ids := Cands(heard), Seen(heard)
	want := slices.Clone(now)
	_ = append(heard, trash)
	spoil(heard, trash)
	spoil(other, trash)
	if !slices.Equal(now, want) || !slices.Equal(gone, []int{7}) || !slices.Equal(ids, []int{3, 7, 8, 9}) || len(told) != 3 || told[0].Id != 3 {
		t.Errorf("R3: what was told became %+v, %v, %+v, %v", now, gone, told, ids)
	}
	againstAnew(t, l)
	if !slices.Equal(Hear(l, hello(8), 80, 2), []api.Near{l[0], l[1], one(8, 16, false), l[2]}) {
		t.Error("R3: a list that was handed in tells something else than it did")
	}
}

// What follows

// Who is heard every DeadTicks - 1 Fades never goes, nor who is heard more
// often; alone, and among others that are heard at other times, and go.
func TestWhoIsHeardStays(t *testing.T) {
	for every := 1; every < api.DeadTicks; every++ {
		alone, among := []api.Near(nil), []api.Near(nil)
		othersGone := 0
		for n := range 500 {
			if n%every == 0 {
				alone, among = Hear(alone, hello(7), 70, 2), Hear(among, hello(7, 2), 70, 2)
			}
			if n%(2*api.DeadTicks) == 5 {
				among = Hear(Hear(among, hello(3), 30, 2), hello(9), 90, 2)
			}
			var gone, others []int
			alone, gone = Fade(alone)
			among, others = Fade(among)
			if len(gone) != 0 || slices.Contains(others, 7) || !slices.Contains(Seen(among), 7) {
				t.Fatalf("11.3: heard every %d Fades, gone at %d: %v, %v", every, n+1, gone, others)
			}
			othersGone += len(others)
		}
		if othersGone != 30 {
			t.Errorf("11.1: others that are heard every %d Fades go %d times, want 30", 2*api.DeadTicks, othersGone)
		}
	}
}

// What keeps one is a hello of its own: neither that of another one, nor one
// of self under its address, nor another packet.
func TestWhatKeepsNobody(t *testing.T) {
	l := Hear(nil, hello(7, 2), 70, 2)
	for range api.DeadTicks - 1 {
		l = Hear(l, hello(9, 7), 70, 2)
		l = Hear(l, hello(2, 7), 70, 2)
		l = Hear(l, api.Packet{Kind: api.PackAck, Router: 7}, 70, 2)
		var gone []int
		if l, gone = Fade(l); len(gone) != 0 {
			t.Errorf("11.1: too soon %v go", gone)
		}
	}
	if _, gone := Fade(l); !slices.Equal(gone, []int{7}) {
		t.Errorf("11.1: %v go, want 7", gone)
	}
}

// Who is heard every DeadTicks Fades goes each time, just then; who is heard no
// more goes once, and comes again as a first one.
func TestWhoIsNotHeardGoes(t *testing.T) {
	l := Hear(nil, hello(7, 2), 70, 2)
	for n := 1; n <= 5*api.DeadTicks; n++ {
		var gone []int
		l, gone = Fade(l)
		goes := n%api.DeadTicks == 0
		if goes != slices.Equal(gone, []int{7}) || goes != (len(l) == 0) {
			t.Errorf("11.1: at the Fade %d %v go, and there are %+v", n, gone, l)
		}
		if goes {
			if again, gone := Fade(l); len(again) != 0 || len(gone) != 0 {
				t.Errorf("11.1: who went goes again: %v", gone)
			}
			l = Hear(l, hello(7), 70, 2)
			if !slices.Equal(l, []api.Near{one(7, 16, false)}) {
				t.Errorf("11.1: who comes again is %+v", l)
			}
		}
	}
}

// Ways

// Halving passes by what does not stand on its side; going through from the
// beginning, or from the end, would find it.
func TestSoughtByHalving(t *testing.T) {
	l := []api.Near{one(9, 1, true), one(8, 1, true), one(7, 1, true), one(5, 1, true), one(3, 1, true), one(2, 1, true), one(1, 1, true)}
	for _, n := range l {
		if at, there := find(l, n.Id); there && n.Id != 5 {
			t.Errorf("Ways: find(%d) = %d, %t in a list that falls", n.Id, at, there)
		}
	}
	slices.Reverse(l)
	for i, n := range l {
		if at, there := find(l, n.Id); at != i || !there {
			t.Errorf("Ways: find(%d) = %d, %t, want %d", n.Id, at, there, i)
		}
	}
}
