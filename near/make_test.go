package near

import (
	"maps"
	"slices"
	"testing"

	"plenum/api"
)

// What the tests are made of: neighbors, hellos, and what is held against what.

// one is a neighbor whose numbers all hang on its Id.
func one(id, left int, two bool) api.Near {
	return api.Near{Id: id, Addr: 10 * id, Prio: id + 1, Dr: id + 2, Bdr: id + 3, Two: two, Left: left}
}

// hello is a hello of a Router, with the numbers that one gives to its Id.
func hello(router int, seen ...int) api.Packet {
	return api.Packet{Kind: api.PackHello, Router: router, Bits: 24, Prio: router + 1, Dr: router + 2, Bdr: router + 3, Seen: seen}
}

// with is n turned by f.
func with(n api.Near, f func(*api.Near)) api.Near {
	f(&n)
	return n
}

// lefts are neighbors with Ids from 1 on, and what each of them has left.
func lefts(left ...int) []api.Near {
	var l []api.Near
	for i, ticks := range left {
		l = append(l, one(i+1, ticks, i%2 == 0))
	}
	return l
}

func idsOf(l []api.Near) []int {
	var ids []int
	for _, n := range l {
		ids = append(ids, n.Id)
	}
	return ids
}

// guarded hands a list in with room behind it that is not the call's, and looks
// behind the call whether the list and that room are as they were. What it
// answers looks again, to be asked once what was told has been written into.
func guarded[T comparable](t *testing.T, l []T, call func(l []T)) (look func()) {
	t.Helper()
	kept := slices.Concat(l, make([]T, 3))
	given := slices.Clone(kept)
	look = func() {
		t.Helper()
		if !slices.Equal(given, kept) {
			t.Errorf("R3: what was handed in, or the room behind it, became %+v, was %+v", given, kept)
		}
	}
	call(given[:len(l)])
	look()
	return look
}

// spoil writes into all of a list, and into the room behind it.
func spoil[T any](l []T, by T) {
	room := l[:cap(l)]
	for i := range room {
		room[i] = by
	}
}

var trash = api.Near{Id: -77, Addr: -77, Prio: -77, Dr: -77, Bdr: -77, Two: true, Left: -77}

// hears holds Hear against what it must tell, and what was handed in against
// what it was, behind the call and behind a writing into what was told.
func hears(t *testing.T, l []api.Near, p api.Packet, addr, self int, want ...api.Near) {
	t.Helper()
	var got []api.Near
	var seen func()
	list := guarded(t, l, func(l []api.Near) {
		seen = guarded(t, p.Seen, func(ids []int) {
			q := p
			q.Seen = ids
			got = Hear(l, q, addr, self)
		})
	})
	if !slices.Equal(got, want) {
		t.Errorf("11.1: Hear(%+v, %+v, %d, %d) = %+v, want %+v", l, p, addr, self, got, want)
	}
	spoil(got, trash)
	list()
	seen()
}

// fades holds Fade against what it must tell, as hears does.
func fades(t *testing.T, l []api.Near, want []api.Near, ids ...int) {
	t.Helper()
	var now []api.Near
	var gone []int
	list := guarded(t, l, func(l []api.Near) { now, gone = Fade(l) })
	if !slices.Equal(now, want) || !slices.Equal(gone, ids) {
		t.Errorf("11.1: Fade(%+v) = %+v, %v, want %+v, %v", l, now, gone, want, ids)
	}
	spoil(now, trash)
	if !slices.Equal(gone, ids) {
		t.Errorf("R3: who writes into who is left turns who goes: %v, was %v", gone, ids)
	}
	spoil(gone, -77)
	list()
}

// cands holds Cands against what it must tell, as hears does.
func cands(t *testing.T, l []api.Near, want ...api.Cand) {
	t.Helper()
	var got []api.Cand
	list := guarded(t, l, func(l []api.Near) { got = Cands(l) })
	if !slices.Equal(got, want) {
		t.Errorf("11.2: Cands(%+v) = %+v, want %+v", l, got, want)
	}
	spoil(got, api.Cand{Id: -77})
	list()
}

// sees holds Seen against what it must tell, as hears does.
func sees(t *testing.T, l []api.Near, want ...int) {
	t.Helper()
	var got []int
	list := guarded(t, l, func(l []api.Near) { got = Seen(l) })
	if !slices.Equal(got, want) {
		t.Errorf("11.2: Seen(%+v) = %v, want %v", l, got, want)
	}
	spoil(got, -77)
	list()
}

// The promises said anew, over a map by Id.

func byId(l []api.Near) map[int]api.Near {
	m := map[int]api.Near{}
	for _, n := range l {
		m[n.Id] = n
	}
	return m
}

func rising(m map[int]api.Near) []api.Near {
	var l []api.Near
	for _, id := range slices.Sorted(maps.Keys(m)) {
		l = append(l, m[id])
	}
	return l
}

func hearAnew(l []api.Near, p api.Packet, addr, self int) []api.Near {
	m := byId(l)
	if p.Kind == api.PackHello && p.Router != self {
		n := api.Near{Id: p.Router, Addr: addr, Prio: p.Prio, Dr: p.Dr, Bdr: p.Bdr, Left: 16}
		for _, id := range p.Seen {
			n.Two = n.Two || id == self
		}
		m[p.Router] = n
	}
	return rising(m)
}

func fadeAnew(l []api.Near) (now []api.Near, gone []int) {
	for _, n := range rising(byId(l)) {
		if n.Left < 2 {
			gone = append(gone, n.Id)
		} else {
			n.Left = n.Left - 1
			now = append(now, n)
		}
	}
	return now, gone
}

func candsAnew(l []api.Near) []api.Cand {
	var all []api.Cand
	for _, n := range rising(byId(l)) {
		if n.Two {
			all = append(all, api.Cand{Id: n.Id, Addr: n.Addr, Prio: n.Prio, Dr: n.Dr, Bdr: n.Bdr})
		}
	}
	return all
}

// againstAnew holds all that goes by a list alone against the promises said
// anew.
func againstAnew(t *testing.T, l []api.Near) {
	t.Helper()
	now, gone := fadeAnew(l)
	fades(t, l, now, gone...)
	cands(t, l, candsAnew(l)...)
	sees(t, l, idsOf(rising(byId(l)))...)
}

// draw draws numbers one behind the other, the same ones each time.
type draw uint64

func (d *draw) below(n int) int {
	*d = *d*6364136223846793005 + 1442695040888963407
	return int(uint64(*d)>>33) % n
}

func (d *draw) list(n, ids int) []api.Near {
	l := make([]api.Near, n)
	for i := range l {
		l[i] = api.Near{Id: d.below(ids) - 2, Addr: d.below(9), Prio: d.below(9), Dr: d.below(9), Bdr: d.below(9), Two: d.below(2) == 0, Left: d.below(5) - 1}
	}
	return l
}

func (d *draw) packet(ids int) api.Packet {
	p := api.Packet{Kind: api.PackHello, Router: d.below(ids) - 2, Prio: d.below(9), Dr: d.below(9), Bdr: d.below(9)}
	for range d.below(4) {
		p.Seen = append(p.Seen, d.below(ids)-2)
	}
	if d.below(5) == 0 {
		p.Kind = d.below(8) - 1
	}
	return p
}

// orders are all orders of a list.
func orders[T any](list []T) [][]T {
	if len(list) == 0 {
		return [][]T{nil}
	}
	var all [][]T
	for i := range list {
		for _, o := range orders(slices.Concat(list[:i], list[i+1:])) {
			all = append(all, append([]T{list[i]}, o...))
		}
	}
	return all
}
