package elect

import (
	"cmp"
	"slices"
	"testing"

	"plenum/api"
)

// What the tests are made of: candidates, and what is held against what.

// cand is one whose Addr is ten times its Id.
func cand(id, prio, dr, bdr int) api.Cand {
	return api.Cand{Id: id, Addr: 10 * id, Prio: prio, Dr: dr, Bdr: bdr}
}

// says is c that says that pair.
func says(c api.Cand, dr, bdr int) api.Cand {
	c.Dr, c.Bdr = dr, bdr
	return c
}

// elects holds Elect against what it must tell, whatever the order of l, and l,
// with the room behind it, against what it was.
func elects(t *testing.T, self api.Cand, l []api.Cand, dr, bdr int) {
	t.Helper()
	for _, o := range orders(l) {
		kept := append(slices.Clone(o), cand(77, 7, 7, 7), cand(78, 8, 8, 8))
		given := slices.Clone(kept)
		gotDr, gotBdr := Elect(self, given[:len(o)])
		if gotDr != dr || gotBdr != bdr {
			t.Errorf("10.2: Elect(%+v, %+v) = %d, %d, want %d, %d", self, o, gotDr, gotBdr, dr, bdr)
			return
		}
		if !slices.Equal(given, kept) {
			t.Errorf("R3: Elect(%+v, l) turns l, or the room behind it: %+v, was %+v", self, given, kept)
			return
		}
	}
}

// rounds holds a first round against what it must tell, and Elect against what
// counts in the end.
func rounds(t *testing.T, self api.Cand, l []api.Cand, dr1, bdr1, dr, bdr int) {
	t.Helper()
	if gotDr, gotBdr := round(self, l); gotDr != dr1 || gotBdr != bdr1 {
		t.Errorf("10.1: round(%+v, %+v) = %d, %d, want %d, %d", self, l, gotDr, gotBdr, dr1, bdr1)
	}
	elects(t, self, l, dr, bdr)
}

// roundAnew says 10.1 by lists: who they are, who claims what, who is best.
func roundAnew(all []api.Cand) (dr, bdr int) {
	them := those(all, func(c api.Cand) bool { return c.Prio > 0 })
	designated := those(them, func(c api.Cand) bool { return c.Dr == c.Addr })
	others := those(them, func(c api.Cand) bool { return c.Dr != c.Addr })
	backups := those(others, func(c api.Cand) bool { return c.Bdr == c.Addr })
	if len(backups) == 0 {
		backups = others
	}
	if len(backups) > 0 {
		bdr = bestAnew(backups)
	}
	dr = bdr
	if len(designated) > 0 {
		dr = bestAnew(designated)
	}
	return dr, bdr
}

func those(all []api.Cand, such func(api.Cand) bool) []api.Cand {
	return slices.DeleteFunc(slices.Clone(all), func(c api.Cand) bool { return !such(c) })
}

func bestAnew(some []api.Cand) int {
	return slices.MaxFunc(some, func(a, b api.Cand) int {
		switch {
		case a.Prio != b.Prio:
			return cmp.Compare(a.Prio, b.Prio)
		case a.Id != b.Id:
			return cmp.Compare(a.Id, b.Id)
		}
		return cmp.Compare(a.Addr, b.Addr)
	}).Addr
}

// electAnew says 10.2 by lists.
func electAnew(self api.Cand, l []api.Cand) (dr, bdr int) {
	dr, bdr = roundAnew(slices.Concat(l, []api.Cand{self}))
	isDr, wasDr := dr == self.Addr, self.Dr == self.Addr
	isBdr, wasBdr := bdr == self.Addr, self.Bdr == self.Addr
	if isDr != wasDr || isBdr != wasBdr {
		return roundAnew(slices.Concat(l, []api.Cand{says(self, dr, bdr)}))
	}
	return dr, bdr
}

// orders are all orders of a list of up to five; of a longer one all that it
// can be turned round to, and those backward.
func orders(l []api.Cand) [][]api.Cand {
	if len(l) > 5 {
		return turns(l)
	}
	if len(l) == 0 {
		return [][]api.Cand{nil}
	}
	var all [][]api.Cand
	for i := range l {
		for _, o := range orders(slices.Concat(l[:i], l[i+1:])) {
			all = append(all, append([]api.Cand{l[i]}, o...))
		}
	}
	return all
}

func turns(l []api.Cand) [][]api.Cand {
	var all [][]api.Cand
	for i := range l {
		turned := slices.Concat(l[i:], l[:i])
		back := slices.Clone(turned)
		slices.Reverse(back)
		all = append(all, turned, back)
	}
	return all
}

// everyCand is each one that can be made of a few numbers, noughts among them.
func everyCand(addrs, prios, said []int) []api.Cand {
	var all []api.Cand
	for _, addr := range addrs {
		for _, prio := range prios {
			for _, dr := range said {
				for _, bdr := range said {
					all = append(all, api.Cand{Id: 1, Addr: addr, Prio: prio, Dr: dr, Bdr: bdr})
				}
			}
		}
	}
	return all
}

// draw draws candidates one behind the other, the same ones each time, with
// numbers that are often alike.
type draw uint64

func (d *draw) below(n int) int {
	*d = *d*6364136223846793005 + 1442695040888963407
	return int(uint64(*d)>>33) % n
}

func (d *draw) cand() api.Cand {
	return api.Cand{Id: d.below(4), Addr: d.below(6), Prio: d.below(4) - 1, Dr: d.below(6), Bdr: d.below(6)}
}

func (d *draw) list(n int) []api.Cand {
	l := make([]api.Cand, n)
	for i := range l {
		l[i] = d.cand()
	}
	return l
}

// without is a net's routers but the one of that place.
func without(l []api.Cand, i int) []api.Cand {
	return slices.Concat(l[:i], l[i+1:])
}

// hearAll lets each router of a net elect by what all said, and then all say
// what they found.
func hearAll(l []api.Cand) []api.Cand {
	said := slices.Clone(l)
	for i, c := range l {
		dr, bdr := Elect(c, without(l, i))
		said[i] = says(c, dr, bdr)
	}
	return said
}

// allSay is a net of which each router says that pair.
func allSay(l []api.Cand, dr, bdr int) []api.Cand {
	said := slices.Clone(l)
	for i, c := range l {
		said[i] = says(c, dr, bdr)
	}
	return said
}

// sayOne tells whether all of a net say one pair.
func sayOne(l []api.Cand) bool {
	return slices.Equal(l, allSay(l, l[0].Dr, l[0].Bdr))
}
