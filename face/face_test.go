package face

import (
	"math"
	"slices"
	"testing"

	"plenum/api"
	"plenum/elect"
	"plenum/near"
)

// Begin

// begins holds Begin against the state and the Wait that it must tell: there is
// no Dr and no Bdr, and nothing else of f is turned.
func begins(t *testing.T, f api.Face, state, wait int) {
	t.Helper()
	want := f
	want.State, want.Wait, want.Dr, want.Bdr = state, wait, 0, 0
	if got := Begin(f); got != want {
		t.Errorf("12.1: Begin(%+v) = %+v, want %+v", f, got, want)
	}
}

func TestTheExampleOfTheChapter(t *testing.T) {
	if f := Begin(api.Face{Kind: api.NetPoint}); f.State != api.FacePoint {
		t.Errorf("12.1: Begin of NetPoint = %+v", f)
	}
}

// A point is one, whatever its Prio.
func TestBeginOfAPoint(t *testing.T) {
	for _, p := range []int{math.MinInt, -1, 0, 1, 2, 255, math.MaxInt} {
		begins(t, api.Face{Kind: api.NetPoint, Addr: 20, Bits: 30, Cost: 3, Prio: p}, api.FacePoint, 0)
	}
}

// On a net one waits DeadTicks with a Prio of 1 or more, and not at all with
// less. A kind that is none counts as a net, and stays as it is.
func TestBeginOfANet(t *testing.T) {
	for _, kind := range []int{api.NetBroad, 0, -1, 3, 77, 1 + 1<<32, math.MinInt, math.MaxInt} {
		f := api.Face{Kind: kind, Addr: 20, Bits: 24, Cost: 3}
		for _, p := range []int{1, 2, 255, 1 << 32, math.MaxInt} {
			begins(t, with(f, func(f *api.Face) { f.Prio = p }), api.FaceWait, 16)
		}
		for _, p := range []int{0, -1, -255, math.MinInt} {
			begins(t, with(f, func(f *api.Face) { f.Prio = p }), api.FaceOther, 0)
		}
	}
}

// What an interface was turns nothing of how it begins; what it has besides
// stays, whatever it is.
func TestBeginAnew(t *testing.T) {
	for _, state := range allStates() {
		for _, n := range []int{math.MinInt, -1, 0, 1, 9, 20, math.MaxInt} {
			f := api.Face{Kind: api.NetBroad, Addr: 20, Bits: 24, Cost: 3, Prio: 1, State: state, Wait: n, Dr: n, Bdr: n}
			begins(t, f, api.FaceWait, 16)
			begins(t, with(f, func(f *api.Face) { f.Prio = 0 }), api.FaceOther, 0)
			begins(t, with(f, func(f *api.Face) { f.Kind = api.NetPoint }), api.FacePoint, 0)
			begins(t, with(f, func(f *api.Face) { f.Addr, f.Bits, f.Cost = n, n, n }), api.FaceWait, 16)
			begins(t, Begin(f), api.FaceWait, 16)
		}
	}
}

// Step of a point

// A point stays as it is: its state counts, not its kind, and whatever else it
// has, whoever is heard.
func TestStepOfAPoint(t *testing.T) {
	lists := [][]api.Near{nil, {}, {hears(1, 0, 0)}, {hears(1, 10, 0)}, {hears(3, 0, 30), hears(1, 10, 30)}, {deaf(1, 10, 0)}}
	for _, kind := range []int{api.NetPoint, api.NetBroad, 0, 77} {
		for _, n := range []int{math.MinInt, -1, 0, 1, 2, 9, 20, math.MaxInt} {
			f := api.Face{Kind: kind, Addr: 20, Bits: n, Cost: n, Prio: n, State: api.FacePoint, Wait: n, Dr: n, Bdr: n}
			for _, l := range lists {
				steps(t, f, self, l, f)
			}
		}
	}
	f := Begin(api.Face{Kind: api.NetPoint, Addr: 20, Prio: 1})
	for range 2 * api.DeadTicks {
		steps(t, f, self, lists[4], f)
		f = Step(f, self, lists[4])
	}
}

// It is the state of which a point is known: one of another state elects.
func TestAPointOfAnotherState(t *testing.T) {
	for _, state := range electing() {
		elects(t, with(own(state, 0, 0), func(f *api.Face) { f.Kind = api.NetPoint }), nil, api.FaceDr, 20, 0)
	}
	goesOn(t, with(waits(9), func(f *api.Face) { f.Kind = api.NetPoint }), nil, 8)
}

// Step of one that waits

// nobodySeen are lists in which nobody is seen: who is heard says nothing, or
// of others alone, or has not heard us.
func nobodySeen() [][]api.Near {
	return [][]api.Near{
		nil,
		{},
		{hears(1, 0, 0)},
		{hears(1, 30, 0)},
		{hears(1, 0, 30)},
		{hears(1, 20, 0)},
		{hears(1, 20, 30)},
		{hears(1, 10, 30)},
		{hears(1, 10, 20)},
		{deaf(1, 0, 10)},
		{deaf(1, 10, 0)},
		{deaf(1, 10, 10)},
		{deaf(1, 30, 10)},
		{hears(1, 0, 0), deaf(3, 30, 0), hears(4, 30, 0), deaf(5, 0, 50)},
		{hears(1, 30, 40), hears(3, 10, 40), hears(4, 10, 30)},
	}
}

// While nobody is seen Wait is one less at each Step, as long as something is
// left of it; nothing else is turned.
func TestGoesOnWaiting(t *testing.T) {
	for _, l := range nobodySeen() {
		for _, wait := range []int{2, 3, 4, 15, 16, 17, 255, 1 << 32, math.MaxInt} {
			goesOn(t, waits(wait), l, wait-1)
			for _, p := range []int{math.MinInt, -1, 0, 2, math.MaxInt} {
				goesOn(t, with(waits(wait), func(f *api.Face) { f.Prio = p }), l, wait-1)
			}
		}
	}
}

// Who waits and says a pair already goes on saying it.
func TestWhatOneThatWaitsSaysStays(t *testing.T) {
	for _, n := range []int{math.MinInt, -1, 0, 10, 20, 30, math.MaxInt} {
		goesOn(t, with(waits(5), func(f *api.Face) { f.Dr, f.Bdr = n, 30 }), []api.Near{hears(1, 0, 0)}, 4)
		goesOn(t, with(waits(5), func(f *api.Face) { f.Dr, f.Bdr = 30, n }), []api.Near{hears(1, 0, 0)}, 4)
		goesOn(t, with(waits(2), func(f *api.Face) { f.Addr, f.Bits, f.Cost = n, n, n }), nil, 1)
	}
}

// With a Wait of 1, or of less, down to the least number, nothing is left of it:
// an election comes, though nobody is seen.
func TestTheWaitIsOver(t *testing.T) {
	for _, wait := range []int{1, 0, -1, -2, -16, -1 << 32, math.MinInt + 1, math.MinInt} {
		elects(t, waits(wait), nil, api.FaceDr, 20, 0)
		elects(t, waits(wait), []api.Near{}, api.FaceDr, 20, 0)
		elects(t, waits(wait), []api.Near{hears(1, 0, 0)}, api.FaceDr, 20, 10)
		elects(t, waits(wait), []api.Near{hears(3, 0, 0)}, api.FaceOther, 30, 30)
		elects(t, waits(wait), []api.Near{deaf(3, 30, 0)}, api.FaceDr, 20, 0)
		elects(t, waits(wait), []api.Near{hears(1, 10, 30)}, api.FaceBackup, 10, 20)
		elects(t, waits(wait), []api.Near{hears(1, 10, 0)}, api.FaceBackup, 10, 20)
		elects(t, with(waits(wait), func(f *api.Face) { f.Prio = 0 }), nil, api.FaceOther, 0, 0)
	}
}

// Who says its own Addr is Bdr is seen, whatever it says of Dr, if it has heard
// us; the wait is over then, however long it is.
func TestABackupIsSeen(t *testing.T) {
	for _, wait := range []int{math.MinInt, -1, 0, 1, 2, 3, 15, 16, 99, math.MaxInt} {
		elects(t, waits(wait), []api.Near{hears(1, 0, 10)}, api.FaceOther, 10, 10)
		elects(t, waits(wait), []api.Near{hears(1, 30, 10)}, api.FaceOther, 10, 10)
		elects(t, waits(wait), []api.Near{hears(1, 10, 10)}, api.FaceBackup, 10, 20)
		elects(t, waits(wait), []api.Near{hears(1, 30, 10), hears(3, 30, 10)}, api.FaceOther, 30, 10)
		elects(t, waits(wait), []api.Near{deaf(1, 0, 0), hears(3, 10, 30)}, api.FaceOther, 30, 30)
	}
	for _, l := range [][]api.Near{{deaf(1, 0, 10)}, {deaf(1, 30, 10)}, {deaf(1, 10, 10)}, {deaf(1, 30, 10), deaf(3, 30, 10)}} {
		goesOn(t, waits(16), l, 15)
		goesOn(t, waits(2), l, 1)
		elects(t, waits(1), l, api.FaceDr, 20, 0)
	}
}

// Who says its own Addr is Dr is seen if it says that there is no Bdr, and not
// if it says that there is one.
func TestADesignatedOneIsSeen(t *testing.T) {
	for _, wait := range []int{2, 3, 15, 16, 99, math.MaxInt} {
		elects(t, waits(wait), []api.Near{hears(3, 30, 0)}, api.FaceBackup, 30, 20)
		elects(t, waits(wait), []api.Near{hears(1, 10, 0)}, api.FaceBackup, 10, 20)
		elects(t, waits(wait), []api.Near{hears(1, 30, 0), hears(3, 30, 0)}, api.FaceBackup, 30, 20)
		elects(t, waits(wait), []api.Near{hears(1, 10, 0), hears(3, 30, 10)}, api.FaceBackup, 30, 20)
		for _, bdr := range []int{1, 10, 20, -1, math.MinInt, math.MaxInt} {
			goesOn(t, waits(wait), []api.Near{hears(3, 30, bdr)}, wait-1)
			goesOn(t, waits(wait), []api.Near{hears(1, 30, 0), hears(3, 30, bdr)}, wait-1)
		}
		goesOn(t, waits(wait), []api.Near{deaf(3, 30, 0)}, wait-1)
		goesOn(t, waits(wait), []api.Near{hears(1, 30, 0), deaf(3, 30, 0)}, wait-1)
	}
	elects(t, waits(1), []api.Near{hears(3, 30, 10)}, api.FaceBackup, 30, 20)
	elects(t, waits(1), []api.Near{hears(3, 30, 20)}, api.FaceBackup, 30, 20)
}

// Who is seen need have no Prio, and may stand anywhere; of one whose Addr is 0
// what it says is held against that.
func TestWhoIsSeen(t *testing.T) {
	elects(t, waits(9), []api.Near{prio(hears(3, 30, 0), 0)}, api.FaceDr, 20, 0)
	elects(t, waits(9), []api.Near{prio(hears(3, 0, 30), -1)}, api.FaceDr, 20, 0)
	for _, l := range orders([]api.Near{hears(1, 0, 0), deaf(3, 0, 30), hears(4, 40, 0), hears(5, 0, 10)}) {
		elects(t, waits(9), l, api.FaceOther, 40, 50)
	}
	nowhere := api.Near{Id: 3, Prio: 1, Two: true, Left: 9}
	elects(t, waits(9), []api.Near{nowhere}, api.FaceBackup, 0, 20)
	nowhere.Bdr = 10
	goesOn(t, waits(9), []api.Near{nowhere}, 8)
	nowhere.Bdr, nowhere.Dr = 0, 10
	elects(t, waits(9), []api.Near{nowhere}, api.FaceOther, 0, 0)
	nowhere.Two = false
	goesOn(t, waits(9), []api.Near{nowhere}, 8)
}

// Step of all others

// Of each other state, and of one that is none, an election comes at once,
// whatever Wait is; Wait is 0 behind it.
func TestStepOfOthers(t *testing.T) {
	for _, state := range electing() {
		for _, wait := range []int{math.MinInt, -1, 0, 1, 2, 16, math.MaxInt} {
			f := with(own(state, 0, 0), func(f *api.Face) { f.Wait = wait })
			elects(t, f, nil, api.FaceDr, 20, 0)
			elects(t, f, []api.Near{hears(1, 0, 0)}, api.FaceDr, 20, 10)
			elects(t, f, []api.Near{hears(3, 0, 0)}, api.FaceOther, 30, 30)
			elects(t, f, []api.Near{hears(3, 30, 20)}, api.FaceBackup, 30, 20)
			elects(t, f, []api.Near{deaf(3, 30, 20)}, api.FaceDr, 20, 0)
		}
	}
}

// All four of an interface's own numbers are held against those of others, and
// self's Id with them.
func TestTheOwnNumbersCount(t *testing.T) {
	one := []api.Near{hears(3, 0, 0)}
	elects(t, own(api.FaceOther, 0, 0), one, api.FaceOther, 30, 30)
	steps(t, own(api.FaceOther, 0, 0), 4, one, own(api.FaceDr, 20, 30))
	elects(t, with(own(api.FaceOther, 0, 0), func(f *api.Face) { f.Prio = 2 }), one, api.FaceDr, 20, 30)
	elects(t, with(own(api.FaceOther, 0, 0), func(f *api.Face) { f.Prio, f.Addr = 2, 90 }), one, api.FaceDr, 90, 30)
	elects(t, with(own(api.FaceOther, 20, 0), func(f *api.Face) { f.Prio = 0 }), one, api.FaceOther, 30, 30)
	elects(t, own(api.FaceOther, 20, 0), one, api.FaceDr, 20, 30)
	elects(t, own(api.FaceOther, 0, 20), one, api.FaceDr, 20, 30)
	elects(t, own(api.FaceOther, 30, 20), []api.Near{hears(3, 30, 20)}, api.FaceBackup, 30, 20)
	elects(t, own(api.FaceOther, 30, 40), []api.Near{hears(3, 30, 40), hears(4, 30, 40)}, api.FaceOther, 30, 40)
	elects(t, own(api.FaceDr, 20, 30), []api.Near{hears(3, 20, 30)}, api.FaceDr, 20, 30)
	elects(t, own(api.FaceDr, 20, 30), []api.Near{hears(3, 30, 0)}, api.FaceBackup, 30, 20)
	same := []api.Near{{Id: self, Addr: 10, Prio: 1, Two: true}}
	elects(t, own(api.FaceOther, 0, 0), same, api.FaceDr, 20, 10)
	elects(t, with(own(api.FaceOther, 0, 0), func(f *api.Face) { f.Addr = 5 }), same, api.FaceOther, 10, 10)
}

// What a neighbor says counts as well, each part of it.
func TestWhatNeighborsSayCounts(t *testing.T) {
	f := own(api.FaceOther, 0, 0)
	elects(t, f, []api.Near{hears(1, 0, 0), hears(3, 0, 0)}, api.FaceOther, 30, 30)
	elects(t, f, []api.Near{prio(hears(1, 0, 0), 2), hears(3, 0, 0)}, api.FaceOther, 10, 10)
	elects(t, f, []api.Near{hears(1, 10, 0), hears(3, 0, 0)}, api.FaceOther, 10, 30)
	elects(t, f, []api.Near{hears(1, 0, 10), hears(3, 0, 0)}, api.FaceOther, 10, 10)
	elects(t, f, []api.Near{hears(1, 0, 0), prio(hears(3, 0, 0), 0)}, api.FaceDr, 20, 10)
	elects(t, f, []api.Near{hears(1, 0, 0), deaf(3, 0, 0)}, api.FaceDr, 20, 10)
	elects(t, f, []api.Near{deaf(1, 10, 0), hears(3, 0, 0)}, api.FaceOther, 30, 30)
	moved := hears(3, 0, 0)
	moved.Addr, moved.Left = 31, 0
	elects(t, f, []api.Near{moved}, api.FaceOther, 31, 31)
}

// The Addr of who is designated, or of the backup, makes the state: no one's
// where it is 0, and the higher one where it is both.
func TestTheStateBehindAnElection(t *testing.T) {
	elects(t, own(api.FaceOther, 0, 0), nil, api.FaceDr, 20, 0)
	elects(t, own(api.FaceDr, 20, 0), []api.Near{hears(3, 30, 20)}, api.FaceBackup, 30, 20)
	elects(t, own(api.FaceBackup, 30, 20), nil, api.FaceDr, 20, 0)
	elects(t, own(api.FaceBackup, 10, 20), []api.Near{prio(hears(3, 30, 20), 0)}, api.FaceDr, 20, 0)
	elects(t, with(own(api.FaceDr, 20, 0), func(f *api.Face) { f.Prio = 0 }), nil, api.FaceOther, 0, 0)
	elects(t, with(own(api.FaceBackup, 30, 20), func(f *api.Face) { f.Prio = -1 }), []api.Near{hears(3, 30, 20)}, api.FaceOther, 30, 0)
	// Another one under the own Addr is designated and the backup.
	twin := []api.Near{{Id: 3, Addr: 20, Prio: 1, Two: true}}
	elects(t, with(own(api.FaceOther, 0, 0), func(f *api.Face) { f.Prio = 0 }), twin, api.FaceDr, 20, 20)
}

// An Addr of 0 is neither designated nor the backup, though an election may
// tell 0.
func TestAnAddrOfNought(t *testing.T) {
	nowhere := func(f api.Face) api.Face { f.Addr = 0; return f }
	for _, state := range electing() {
		elects(t, nowhere(own(state, 0, 0)), nil, api.FaceOther, 0, 0)
		elects(t, nowhere(own(state, 30, 0)), []api.Near{hears(3, 30, 0)}, api.FaceOther, 30, 0)
		elects(t, nowhere(own(state, 0, 30)), []api.Near{hears(3, 0, 30)}, api.FaceOther, 0, 30)
	}
	elects(t, nowhere(waits(1)), nil, api.FaceOther, 0, 0)
	goesOn(t, nowhere(waits(2)), nil, 1)
	for _, addr := range []int{-1, math.MinInt, 1<<32 - 1, 1 << 32, math.MaxInt} {
		elects(t, with(own(api.FaceOther, 0, 0), func(f *api.Face) { f.Addr = addr }), nil, api.FaceDr, addr, 0)
	}
}

// l

// A list that does not rise tells what the one that rises tells.
func TestTheOrderIsNothing(t *testing.T) {
	for _, l := range orders([]api.Near{hears(1, 0, 0), hears(3, 0, 0), hears(4, 0, 30), deaf(5, 0, 50)}) {
		elects(t, own(api.FaceOther, 0, 0), l, api.FaceOther, 40, 40)
		goesOn(t, waits(9), l, 8)
		elects(t, waits(1), l, api.FaceOther, 40, 40)
	}
}

// Of an Id that stands in l more than once the last one counts: whether it is
// seen, whether it has heard us, what it says.
func TestTheLastOneOfAnIdCounts(t *testing.T) {
	seen, not, silent := hears(3, 30, 0), hears(3, 30, 10), deaf(3, 30, 0)
	other := hears(1, 0, 0)
	for _, l := range [][]api.Near{{not, seen}, {silent, seen}, {seen, not, seen}, {not, other, seen}, {other, silent, seen}, {silent, seen, other}} {
		elects(t, waits(9), l, api.FaceBackup, 30, 20)
		elects(t, own(api.FaceOther, 0, 0), l, api.FaceBackup, 30, 20)
	}
	for _, l := range [][]api.Near{{seen, not}, {seen, silent}, {seen, seen, not}, {seen, other, silent}, {other, seen, not}, {seen, not, other}, {seen, silent, other}} {
		goesOn(t, waits(9), l, 8)
	}
	elects(t, own(api.FaceOther, 0, 0), []api.Near{seen, silent}, api.FaceDr, 20, 0)
	elects(t, own(api.FaceOther, 0, 0), []api.Near{prio(hears(3, 0, 0), 9), hears(1, 0, 0), prio(hears(3, 0, 0), 0)}, api.FaceDr, 20, 10)
	elects(t, own(api.FaceOther, 0, 0), []api.Near{prio(hears(3, 0, 0), 0), hears(1, 0, 0), prio(hears(3, 0, 0), 9)}, api.FaceOther, 30, 30)
	elects(t, own(api.FaceOther, 0, 0), []api.Near{hears(3, 0, 30), hears(1, 0, 0), hears(3, 30, 0)}, api.FaceBackup, 30, 20)
}

// Wants

// On a point, and by who is designated or the backup, each one is wanted that
// has heard us, whatever its Addr.
func TestWantsAll(t *testing.T) {
	for _, state := range []int{api.FacePoint, api.FaceBackup, api.FaceDr} {
		for _, addr := range []int{0, 10, 20, 30, -1, 1<<32 - 1, math.MaxInt} {
			for _, f := range []api.Face{own(state, 0, 0), own(state, 10, 30), own(state, 20, 20), own(state, addr, addr)} {
				wants(t, f, api.Near{Id: 1, Addr: addr, Two: true}, true)
				wants(t, f, api.Near{Id: 1, Addr: addr, Dr: addr, Bdr: addr, Prio: 1, Left: 16}, false)
			}
		}
	}
}

// wants holds Wants against what it must tell.
func wants(t *testing.T, f api.Face, n api.Near, want bool) {
	t.Helper()
	if Wants(f, n) != want {
		t.Errorf("12.2: Wants(%+v, %+v) = %v, want %v", f, n, !want, want)
	}
}

// By another one than those who is designated and who is the backup are
// wanted, and have heard us, as the interface has them: not as they say.
func TestWantsOfOthers(t *testing.T) {
	for _, n := range []api.Near{hears(1, 0, 0), hears(1, 10, 10), prio(hears(1, 30, 40), 0), {Addr: 10, Two: true}} {
		wants(t, own(api.FaceOther, 10, 0), n, true)
		wants(t, own(api.FaceOther, 0, 10), n, true)
		wants(t, own(api.FaceOther, 10, 30), n, true)
		wants(t, own(api.FaceOther, 30, 10), n, true)
		wants(t, own(api.FaceOther, 10, 10), n, true)
		wants(t, own(api.FaceOther, 30, 40), n, false)
		wants(t, own(api.FaceOther, 1, 11), n, false)
		wants(t, own(api.FaceOther, 0, 0), n, false)
		wants(t, own(api.FaceOther, 20, 20), n, false)
		wants(t, own(api.FaceOther, 10+1<<32, -10), n, false)
		n.Two = false
		for _, f := range []api.Face{own(api.FaceOther, 10, 0), own(api.FaceOther, 0, 10), own(api.FaceOther, 10, 10)} {
			wants(t, f, n, false)
		}
	}
}

// An Addr of 0 is nobody's: where there is no Dr, or no Bdr, it is not it.
func TestWantsNobodyAtNought(t *testing.T) {
	for _, f := range []api.Face{own(api.FaceOther, 0, 0), own(api.FaceOther, 10, 0), own(api.FaceOther, 0, 10)} {
		wants(t, f, api.Near{Id: 1, Two: true}, false)
		wants(t, f, api.Near{Id: 10, Two: true}, false)
	}
}

// While one waits, and in a state that is none, nobody is wanted.
func TestWantsNobody(t *testing.T) {
	states := slices.DeleteFunc(allStates(), func(s int) bool {
		return s == api.FacePoint || s == api.FaceOther || s == api.FaceBackup || s == api.FaceDr
	})
	for _, state := range states {
		for _, f := range []api.Face{own(state, 0, 0), own(state, 10, 0), own(state, 0, 10), own(state, 20, 10), own(state, 10, 20)} {
			for _, n := range []api.Near{hears(1, 0, 0), hears(1, 10, 20), deaf(1, 0, 0), {Two: true}} {
				wants(t, f, n, false)
			}
		}
	}
}

// What follows

// Alone on a net one waits, and is designated behind DeadTicks Steps: not
// behind one less, and still behind one more.
func TestAlone(t *testing.T) {
	for _, p := range []int{1, 2, 255, math.MaxInt} {
		for _, kind := range []int{api.NetBroad, 0, 3} {
			for _, l := range [][]api.Near{nil, {deaf(1, 10, 0), deaf(3, 0, 30)}} {
				f := Begin(api.Face{Kind: kind, Addr: 20, Bits: 24, Cost: 3, Prio: p})
				for n := 1; n < api.DeadTicks; n++ {
					f = Step(f, self, l)
					if f.State != api.FaceWait || f.Dr != 0 || f.Bdr != 0 || f.Wait != api.DeadTicks-n {
						t.Fatalf("12.3: alone behind %d Steps: %+v", n, f)
					}
				}
				for n := api.DeadTicks; n < 3*api.DeadTicks; n++ {
					f = Step(f, self, l)
					if f != (api.Face{Kind: kind, Addr: 20, Bits: 24, Cost: 3, Prio: p, State: api.FaceDr, Dr: 20}) {
						t.Fatalf("12.3: alone behind %d Steps: %+v", n, f)
					}
				}
			}
		}
	}
}

// Alone without a Prio one never is.
func TestAloneWithoutAPrio(t *testing.T) {
	f := Begin(api.Face{Kind: api.NetBroad, Addr: 20})
	for n := range 3 * api.DeadTicks {
		if f = Step(f, self, nil); f.State != api.FaceOther || f.Dr != 0 || f.Bdr != 0 || f.Wait != 0 {
			t.Fatalf("12.1: without a Prio behind %d Steps: %+v", n+1, f)
		}
	}
}

// Several on one net that hear one another tick by tick: they wait together,
// and say one pair then; one that comes later waits no longer than until it
// has heard them, and turns nothing; where one goes the next one comes up.
func TestSeveralOnANet(t *testing.T) {
	routers := newRouters(1, 1, 1, 1)
	for n := 1; n < api.DeadTicks; n++ {
		routers.run(1)
		routers.all(t, n, []int{api.FaceWait, api.FaceWait, api.FaceWait, api.FaceWait}, 0, 0)
	}
	routers.run(10)
	routers.all(t, 25, []int{api.FaceOther, api.FaceOther, api.FaceBackup, api.FaceDr}, 40, 30)
	routers = append(routers, newRouter(5, 9), newRouter(6, 0))
	routers.run(5)
	routers.all(t, 30, []int{api.FaceOther, api.FaceOther, api.FaceBackup, api.FaceDr, api.FaceOther, api.FaceOther}, 40, 30)
	routers = slices.Delete(routers, 3, 4)
	routers.run(api.DeadTicks + 5)
	routers.all(t, 51, []int{api.FaceOther, api.FaceOther, api.FaceDr, api.FaceBackup, api.FaceOther}, 30, 50)
}

// router is one of several on a net: its interface, and whom it heard.
type router struct {
	id   int
	face api.Face
	near []api.Near
}

type routers []router

func newRouter(id, prio int) router {
	return router{id: id, face: Begin(api.Face{Kind: api.NetBroad, Addr: 10 * id, Bits: 24, Prio: prio})}
}

func newRouters(prios ...int) routers {
	var rs routers
	for i, p := range prios {
		rs = append(rs, newRouter(i+1, p))
	}
	return rs
}

// tick lets each one tell what it knows to all others, and then go on.
func (rs routers) tick() {
	var hellos []api.Packet
	for _, r := range rs {
		hellos = append(hellos, api.Packet{
			Kind: api.PackHello, Router: r.id, Bits: 24, Prio: r.face.Prio, Dr: r.face.Dr, Bdr: r.face.Bdr, Seen: near.Seen(r.near),
		})
	}
	for i := range rs {
		rs[i].near, _ = near.Fade(rs[i].near)
		for _, h := range hellos {
			rs[i].near = near.Hear(rs[i].near, h, 10*h.Router, rs[i].id)
		}
		rs[i].face = Step(rs[i].face, rs[i].id, rs[i].near)
	}
}

func (rs routers) run(ticks int) {
	for range ticks {
		rs.tick()
	}
}

// all holds each one's state, and the pair that all say, against what they must
// be, and whom they want: who is neither wants those two, those two want all.
func (rs routers) all(t *testing.T, ticks int, states []int, dr, bdr int) {
	t.Helper()
	for i, r := range rs {
		if r.face.State != states[i] || r.face.Dr != dr || r.face.Bdr != bdr {
			t.Fatalf("12.1: behind %d ticks: %+v, want state %d, %d, %d", ticks, r.face, states[i], dr, bdr)
		}
		for _, n := range r.near {
			designated := n.Addr == dr || n.Addr == bdr || r.face.Addr == dr || r.face.Addr == bdr
			wants(t, r.face, n, designated && r.face.State != api.FaceWait)
		}
	}
}

// All together

// A Step's pair is Elect's of self among the Cands of l, whatever they are.
func TestThePairIsElects(t *testing.T) {
	var d draw
	for n := range 5000 {
		f, l, id := d.face(), d.list(n%6), d.below(5)
		f.State = electing()[d.below(len(electing()))]
		dr, bdr := elect.Elect(api.Cand{Id: id, Addr: f.Addr, Prio: f.Prio, Dr: f.Dr, Bdr: f.Bdr}, near.Cands(l))
		if got := Step(f, id, l); got.Dr != dr || got.Bdr != bdr || got.Wait != 0 {
			t.Fatalf("12.1: Step(%+v, %d, %+v) = %+v, want %d, %d", f, id, l, got, dr, bdr)
		}
	}
}

// Drawn ones, held against the promises said anew, and asked again.
func TestDrawn(t *testing.T) {
	var d draw
	for n := range 20000 {
		f, l, id := d.face(), d.list(n%6), d.below(5)
		for range 2 {
			if got := Begin(f); got != beginAnew(f) {
				t.Errorf("12.1: Begin(%+v) = %+v, want %+v", f, got, beginAnew(f))
			}
			waiting := with(f, func(f *api.Face) { f.State = api.FaceWait })
			steps(t, f, id, l, stepAnew(f, id, l))
			steps(t, waiting, id, l, stepAnew(waiting, id, l))
			for _, n := range l {
				wants(t, f, n, wantsAnew(f, n))
			}
		}
		if t.Failed() {
			return
		}
	}
}

// Each interface and neighbor that a few numbers make, held against 12.2 said
// anew.
func TestWantsOfAFew(t *testing.T) {
	for _, state := range allStates() {
		for n := range 3 * 3 * 3 * 2 {
			f := own(state, n%3*10, n/3%3*10)
			one := api.Near{Id: 1, Addr: n / 9 % 3 * 10, Two: n/27 == 1}
			wants(t, f, one, wantsAnew(f, one))
		}
	}
}
