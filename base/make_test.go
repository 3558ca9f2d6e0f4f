package base

import (
	"cmp"
	"slices"
	"testing"

	"plenum/api"
	"plenum/lsa"
)

// What the tests are made of: advertisements, databases of them, and what is
// held against what.

func router(id, adv, seq, age int, costs ...int) api.Lsa {
	l := api.Lsa{Head: api.Head{Kind: api.LsaRouter, Id: id, Adv: adv, Seq: seq, Age: age}}
	for i, c := range costs {
		l.Links = append(l.Links, api.Link{Kind: api.LinkRouter, Id: i + 1, Data: 7, Cost: c})
	}
	return lsa.Seal(l)
}

func network(id, adv, seq, age int, routers ...int) api.Lsa {
	return lsa.Seal(api.Lsa{
		Head:    api.Head{Kind: api.LsaNetwork, Id: id, Adv: adv, Seq: seq, Age: age},
		Bits:    24,
		Routers: routers,
	})
}

func group(id, adv, seq, age int, verts ...int) api.Lsa {
	l := api.Lsa{Head: api.Head{Kind: api.LsaGroup, Id: id, Adv: adv, Seq: seq, Age: age}}
	for _, v := range verts {
		l.Verts = append(l.Verts, api.Vert{Kind: api.VertNetwork, Id: v})
	}
	return lsa.Seal(l)
}

// of is an advertisement of a Key.
func of(k api.Key, seq, age int) api.Lsa {
	return lsa.Seal(api.Lsa{Head: api.Head{Kind: k.Kind, Id: k.Id, Adv: k.Adv, Seq: seq, Age: age}})
}

func keyOf(l api.Lsa) api.Key {
	return api.Key{Kind: l.Head.Kind, Id: l.Head.Id, Adv: l.Head.Adv}
}

// with is l turned by f; what f turns of its lists is not seen elsewhere.
func with(l api.Lsa, f func(*api.Lsa)) api.Lsa {
	l = apart(l)
	f(&l)
	return l
}

// apart is l with memory of its own.
func apart(l api.Lsa) api.Lsa {
	l.Links, l.Routers, l.Verts = slices.Clone(l.Links), slices.Clone(l.Routers), slices.Clone(l.Verts)
	return l
}

// same holds two against each other; a nil list and an empty one are one.
func same(a, b api.Lsa) bool {
	return a.Head == b.Head && a.Flags == b.Flags && a.Bits == b.Bits &&
		slices.Equal(a.Links, b.Links) && slices.Equal(a.Routers, b.Routers) && slices.Equal(a.Verts, b.Verts)
}

func room(t *testing.T, most int) *Base {
	t.Helper()
	b, e := New(most)
	if b == nil || e != api.OK {
		t.Fatalf("8.1: New(%d) = %v, %d", most, b, e)
	}
	return b
}

// filled is a database with just those.
func filled(t *testing.T, most int, list ...api.Lsa) *Base {
	t.Helper()
	b := room(t, most)
	for _, l := range list {
		puts(t, b, l, api.OK)
	}
	return b
}

func puts(t *testing.T, b *Base, l api.Lsa, want api.Errno) {
	t.Helper()
	if e := b.Put(l); e != want {
		t.Errorf("8.1: Put(%+v) = %d, want %d", l, e, want)
	}
}

func drops(t *testing.T, b *Base, k api.Key, want bool) {
	t.Helper()
	if was := b.Drop(k); was != want {
		t.Errorf("8.1: Drop(%+v) = %t, want %t", k, was, want)
	}
}

// hasNot asks for a Key that is not there.
func hasNot(t *testing.T, b *Base, k api.Key) {
	t.Helper()
	l, is := b.Get(k)
	if is || l.Head != (api.Head{}) || l.Flags != 0 || l.Bits != 0 || l.Links != nil || l.Routers != nil || l.Verts != nil {
		t.Errorf("8.1, R4: Get(%+v) = %+v, %t, where there is none", k, l, is)
	}
}

// holds asks a database in every way for what is there: just those, whatever
// the order in which they are handed in.
func holds(t *testing.T, b *Base, want ...api.Lsa) {
	t.Helper()
	want = slices.SortedFunc(slices.Values(want), byKey)
	if !slices.EqualFunc(b.All(), want, same) {
		t.Errorf("8.1: All() = %+v, want %+v", b.All(), want)
	}
	if !slices.Equal(b.Heads(), headsOf(want)) {
		t.Errorf("8.1: Heads() = %+v, want %+v", b.Heads(), headsOf(want))
	}
	if b.Len() != len(want) {
		t.Errorf("8.1: Len() = %d, want %d", b.Len(), len(want))
	}
	for _, l := range want {
		if got, is := b.Get(keyOf(l)); !is || !same(got, l) {
			t.Errorf("8.1: Get(%+v) = %+v, %t, want %+v", keyOf(l), got, is, l)
		}
	}
}

// byKey says R6 anew: by Kind, then Id, then Adv.
func byKey(a, b api.Lsa) int {
	x, y := keyOf(a), keyOf(b)
	switch {
	case x.Kind != y.Kind:
		return cmp.Compare(x.Kind, y.Kind)
	case x.Id != y.Id:
		return cmp.Compare(x.Id, y.Id)
	}
	return cmp.Compare(x.Adv, y.Adv)
}

func headsOf(list []api.Lsa) []api.Head {
	var heads []api.Head
	for _, l := range list {
		heads = append(heads, l.Head)
	}
	return heads
}

// orders are all orders of a list.
func orders[T any](list []T) [][]T {
	if len(list) == 0 {
		return [][]T{nil}
	}
	var all [][]T
	for i := range list {
		rest := slices.Concat(list[:i], list[i+1:])
		for _, o := range orders(rest) {
			all = append(all, append([]T{list[i]}, o...))
		}
	}
	return all
}
