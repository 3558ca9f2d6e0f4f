package age

import (
	"slices"
	"testing"

	"plenum/api"
	"plenum/base"
	"plenum/lsa"
)

// What the tests are made of: advertisements, databases of them, and what is
// held against what.

func router(id, adv, age int) api.Lsa {
	return lsa.Seal(api.Lsa{
		Head:  api.Head{Kind: api.LsaRouter, Id: id, Adv: adv, Seq: 4, Age: age},
		Flags: api.Wild,
		Links: []api.Link{{Kind: api.LinkRouter, Id: 9, Data: 7, Cost: 3}, {Kind: api.LinkStub, Id: 8, Data: 1 << 31, Cost: 1}},
	})
}

func network(id, adv, age int) api.Lsa {
	return lsa.Seal(api.Lsa{
		Head:    api.Head{Kind: api.LsaNetwork, Id: id, Adv: adv, Seq: api.FirstSeq, Age: age},
		Bits:    24,
		Routers: []int{3, 1, 2},
	})
}

func group(id, adv, age int) api.Lsa {
	return lsa.Seal(api.Lsa{
		Head:  api.Head{Kind: api.LsaGroup, Id: id, Adv: adv, Seq: api.LastSeq, Age: age},
		Verts: []api.Vert{{Kind: api.VertRouter, Id: 5}, {Kind: api.VertNetwork, Id: 6}},
	})
}

// several are some of each Kind, by rising Key, of the Advs 1, 2 and 3: all
// have that Age.
func several(age int) []api.Lsa {
	return []api.Lsa{
		router(1, 2, age), router(2, 1, age), router(2, 2, age), router(9, 3, age),
		network(1, 2, age), network(1, 3, age), network(1<<32-1, 1, age),
		group(0, 1, age), group(3, 3, age), group(1<<31, 2, age),
	}
}

// aged is the list with those Ages, over and over; the Sums are those that the
// list had.
func aged(list []api.Lsa, ages ...int) []api.Lsa {
	list = slices.Clone(list)
	for i := range list {
		list[i].Head.Age = ages[i%len(ages)]
	}
	return list
}

func keyAt(l api.Lsa) api.Key {
	return api.Key{Kind: l.Head.Kind, Id: l.Head.Id, Adv: l.Head.Adv}
}

// keysOf are the Keys of those of a list that are such.
func keysOf(list []api.Lsa, such func(api.Lsa) bool) []api.Key {
	var all []api.Key
	for _, l := range list {
		if such(l) {
			all = append(all, keyAt(l))
		}
	}
	return all
}

// room is an empty database.
func room(t *testing.T, most int) *base.Base {
	t.Helper()
	b, e := base.New(most)
	if e != api.OK {
		t.Fatalf("New(%d): %d", most, e)
	}
	return b
}

// filled is a database with just those, and no room for more, put there in the
// order of their list turned round.
func filled(t *testing.T, list ...api.Lsa) *base.Base {
	t.Helper()
	b := room(t, max(len(list), 1))
	for _, l := range slices.Backward(list) {
		puts(t, b, l)
	}
	return b
}

func puts(t *testing.T, b *base.Base, l api.Lsa) {
	t.Helper()
	if e := b.Put(l); e != api.OK {
		t.Fatalf("Put(%+v): %d", l, e)
	}
}

// holds asks a database for all that is there: just those, in that order, and
// each one still sealed.
func holds(t *testing.T, what string, b *base.Base, want ...api.Lsa) {
	t.Helper()
	all := b.All()
	if !slices.EqualFunc(all, want, same) {
		t.Errorf("9.1: %s: there is %+v, want %+v", what, all, want)
	}
	for _, l := range all {
		if !same(lsa.Seal(l), l) {
			t.Errorf("9.1: %s: %+v is not sealed", what, l)
		}
	}
}

// same holds two against each other; a nil list and an empty one are one.
func same(a, b api.Lsa) bool {
	return a.Head == b.Head && a.Flags == b.Flags && a.Bits == b.Bits &&
		slices.Equal(a.Links, b.Links) && slices.Equal(a.Routers, b.Routers) && slices.Equal(a.Verts, b.Verts)
}

// tells holds the Keys that a call told against those that it must tell.
func tells(t *testing.T, what string, got []api.Key, want ...api.Key) {
	t.Helper()
	if !slices.Equal(got, want) {
		t.Errorf("9.1: %s tells %+v, want %+v", what, got, want)
	}
}

// allDead says 9.2 of a list that is there: those that nobody refreshed are
// Dead, and no others.
func allDead(t *testing.T, b *base.Base, list []api.Lsa, refreshed ...api.Key) {
	t.Helper()
	want := keysOf(list, func(l api.Lsa) bool { return !slices.Contains(refreshed, keyAt(l)) })
	if got := Dead(b); !slices.Equal(got, want) {
		t.Errorf("9.2: behind MaxAge Ticks Dead tells %+v, want %+v", got, want)
	}
}

func kills(t *testing.T, b *base.Base, k api.Key, want bool) {
	t.Helper()
	if got := Kill(b, k); got != want {
		t.Errorf("9.1: Kill(%+v) = %t, want %t", k, got, want)
	}
}
