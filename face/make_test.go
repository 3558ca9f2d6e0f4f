package face

import (
	"math"
	"slices"
	"testing"

	"plenum/api"
	"plenum/elect"
)

// What the tests are made of: interfaces, neighbors, and what is held against
// what.

// self is the Id of whose interface it is, where nothing else is said.
const self = 2

// own is an interface of self on a net, as it is behind an election.
func own(state, dr, bdr int) api.Face {
	return api.Face{Kind: api.NetBroad, Addr: 20, Bits: 24, Cost: 3, Prio: 1, State: state, Dr: dr, Bdr: bdr}
}

// waits is own, as it waits.
func waits(wait int) api.Face {
	f := own(api.FaceWait, 0, 0)
	f.Wait = wait
	return f
}

// with is f turned by turn.
func with(f api.Face, turn func(*api.Face)) api.Face {
	turn(&f)
	return f
}

// hears is a neighbor that has heard us, with an Addr of ten times its Id, and
// says that pair.
func hears(id, dr, bdr int) api.Near {
	return api.Near{Id: id, Addr: 10 * id, Prio: 1, Dr: dr, Bdr: bdr, Two: true, Left: 9}
}

// deaf is hears, but of one that has not heard us.
func deaf(id, dr, bdr int) api.Near {
	n := hears(id, dr, bdr)
	n.Two = false
	return n
}

// prio is n with that Prio.
func prio(n api.Near, p int) api.Near {
	n.Prio = p
	return n
}

// steps holds Step against what it must tell, in each part of it, and l, with
// the room behind it, against what it was.
func steps(t *testing.T, f api.Face, id int, l []api.Near, want api.Face) {
	t.Helper()
	kept := slices.Concat(l, []api.Near{hears(77, 770, 0), hears(78, 0, 780)})
	given := slices.Clone(kept)
	if got := Step(f, id, given[:len(l)]); got != want {
		t.Errorf("12.1: Step(%+v, %d, %+v) = %+v, want %+v", f, id, l, got, want)
	}
	if !slices.Equal(given, kept) {
		t.Errorf("R3: Step(%+v, %d, l) turns l, or the room behind it: %+v, was %+v", f, id, given, kept)
	}
}

// elects holds a Step of which an election comes against the pair and the
// state that it must tell: nothing else of f is turned, and Wait is 0.
func elects(t *testing.T, f api.Face, l []api.Near, state, dr, bdr int) {
	t.Helper()
	want := f
	want.State, want.Dr, want.Bdr, want.Wait = state, dr, bdr, 0
	steps(t, f, self, l, want)
}

// goesOn holds a Step of one that waits against the Wait that it must tell:
// nothing else is turned.
func goesOn(t *testing.T, f api.Face, l []api.Near, wait int) {
	t.Helper()
	want := f
	want.Wait = wait
	steps(t, f, self, l, want)
}

// The promises said anew.

// lastsAnew are the last ones of each Id of l, by rising Id.
func lastsAnew(l []api.Near) []api.Near {
	var lasts []api.Near
	for i, n := range l {
		if !slices.ContainsFunc(l[i+1:], func(m api.Near) bool { return m.Id == n.Id }) {
			lasts = append(lasts, n)
		}
	}
	slices.SortFunc(lasts, func(a, b api.Near) int {
		if a.Id < b.Id {
			return -1
		}
		return 1
	})
	return lasts
}

func beginAnew(f api.Face) api.Face {
	b := api.Face{Kind: f.Kind, Addr: f.Addr, Bits: f.Bits, Cost: f.Cost, Prio: f.Prio}
	if f.Kind == 1 {
		b.State = 1
	} else if f.Prio >= 1 {
		b.State, b.Wait = 2, 16
	} else {
		b.State = 3
	}
	return b
}

func stepAnew(f api.Face, id int, l []api.Near) api.Face {
	if f.State == 1 {
		return f
	}
	seen := false
	var cands []api.Cand
	for _, n := range lastsAnew(l) {
		if n.Two {
			says := n.Bdr == n.Addr || (n.Dr == n.Addr && n.Bdr == 0)
			seen = seen || says
			cands = append(cands, api.Cand{Id: n.Id, Addr: n.Addr, Prio: n.Prio, Dr: n.Dr, Bdr: n.Bdr})
		}
	}
	if f.State == 2 && f.Wait >= 2 && !seen {
		f.Wait = f.Wait - 1
		return f
	}
	f.Dr, f.Bdr = elect.Elect(api.Cand{Id: id, Addr: f.Addr, Prio: f.Prio, Dr: f.Dr, Bdr: f.Bdr}, cands)
	f.Wait, f.State = 0, 3
	if f.Addr != 0 && f.Bdr == f.Addr {
		f.State = 4
	}
	if f.Addr != 0 && f.Dr == f.Addr {
		f.State = 5
	}
	return f
}

func wantsAnew(f api.Face, n api.Near) bool {
	all := f.State == 1 || f.State == 4 || f.State == 5
	its := f.State == 3 && n.Addr != 0 && (n.Addr == f.Dr || n.Addr == f.Bdr)
	return n.Two && (all || its)
}

// draw draws numbers one behind the other, the same ones each time, and
// interfaces and neighbors with numbers that are often alike.
type draw uint64

func (d *draw) below(n int) int {
	*d = *d*6364136223846793005 + 1442695040888963407
	return int(uint64(*d)>>33) % n
}

func (d *draw) face() api.Face {
	return api.Face{
		Kind: d.below(4), Addr: d.below(5), Bits: d.below(33), Cost: d.below(9), Prio: d.below(4) - 1,
		State: d.below(7), Wait: d.below(5) - 1, Dr: d.below(5), Bdr: d.below(5),
	}
}

func (d *draw) list(n int) []api.Near {
	l := make([]api.Near, n)
	for i := range l {
		l[i] = api.Near{
			Id: d.below(5), Addr: d.below(5), Prio: d.below(4) - 1, Dr: d.below(5), Bdr: d.below(5),
			Two: d.below(3) > 0, Left: d.below(17),
		}
	}
	return l
}

// orders are all orders of a list.
func orders(l []api.Near) [][]api.Near {
	if len(l) == 0 {
		return [][]api.Near{nil}
	}
	var all [][]api.Near
	for i := range l {
		for _, o := range orders(slices.Concat(l[:i], l[i+1:])) {
			all = append(all, append([]api.Near{l[i]}, o...))
		}
	}
	return all
}

// allStates are the states, and numbers that are none.
func allStates() []int {
	return []int{
		api.FacePoint, api.FaceWait, api.FaceOther, api.FaceBackup, api.FaceDr,
		math.MinInt, -1, 0, 6, 77, 1 + 1<<32, 5 + 1<<32, math.MaxInt,
	}
}

// electing are those of them of which an election comes at each Step.
func electing() []int {
	return slices.DeleteFunc(allStates(), func(s int) bool { return s == api.FacePoint || s == api.FaceWait })
}
