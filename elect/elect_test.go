package elect

import (
	"math"
	"slices"
	"testing"

	"plenum/api"
)

func TestTheExampleOfTheChapter(t *testing.T) {
	elects(t, cand(1, 1, 0, 0), nil, 10, 0)
	elects(t, cand(1, 1, 0, 0), []api.Cand{}, 10, 0)
}

// Alone: with a Prio above 0 self is designated, whatever it said, and nobody
// is the backup; with none nobody is anything.
func TestAlone(t *testing.T) {
	said := []int{0, 10, 20, -10, math.MaxInt}
	for _, dr := range said {
		for _, bdr := range said {
			for _, prio := range []int{1, 2, 255, 256, math.MaxInt} {
				elects(t, cand(1, prio, dr, bdr), nil, 10, 0)
			}
			for _, prio := range []int{0, -1, -255, math.MinInt} {
				elects(t, cand(1, prio, dr, bdr), nil, 0, 0)
			}
		}
	}
}

// Where none has a Prio above 0, nobody is elected, whatever they claim.
func TestNoneHasAPrio(t *testing.T) {
	l := []api.Cand{cand(2, 0, 20, 0), cand(3, -1, 0, 30), cand(4, math.MinInt, 40, 40), cand(5, 0, 0, 0)}
	for n := range len(l) + 1 {
		elects(t, cand(1, 0, 10, 10), l[:n], 0, 0)
		elects(t, cand(1, -7, 0, 10), l[:n], 0, 0)
		elects(t, cand(1, 0, 20, 30), l[:n], 0, 0)
	}
}

// Who has no Prio is not among them: neither as one that claims, nor as one
// that is left; whether it is self or another.
func TestClaimsWithoutAPrio(t *testing.T) {
	for _, prio := range []int{0, -1, math.MinInt} {
		elects(t, cand(1, 1, 0, 0), []api.Cand{cand(9, prio, 90, 0)}, 10, 0)
		elects(t, cand(1, 1, 0, 0), []api.Cand{cand(9, prio, 0, 90)}, 10, 0)
		elects(t, cand(1, 1, 0, 0), []api.Cand{cand(9, prio, 0, 0)}, 10, 0)
		elects(t, cand(1, 1, 90, 0), []api.Cand{cand(9, prio, 90, 0), cand(2, 1, 90, 0)}, 20, 20)
		elects(t, cand(1, 1, 20, 90), []api.Cand{cand(9, prio, 20, 90), cand(2, 1, 20, 90)}, 20, 10)
		elects(t, cand(9, prio, 90, 90), []api.Cand{cand(1, 1, 0, 0)}, 10, 10)
		elects(t, cand(9, prio, 90, 0), []api.Cand{cand(1, 1, 0, 0), cand(2, 1, 0, 0)}, 20, 20)
		elects(t, cand(9, prio, 0, 90), []api.Cand{cand(1, 1, 10, 0), cand(2, 1, 10, 0)}, 10, 20)
	}
}

// One that claims to be designated is it, however much better others are.
func TestOneIsDesignated(t *testing.T) {
	elects(t, cand(9, 9, 0, 0), []api.Cand{cand(2, 1, 20, 0)}, 20, 90)
	elects(t, cand(9, 9, 20, 0), []api.Cand{cand(2, 1, 20, 0), cand(8, 8, 20, 0)}, 20, 90)
	elects(t, cand(1, 1, 20, 30), []api.Cand{cand(2, 1, 20, 30), cand(3, 9, 20, 30)}, 20, 30)
	elects(t, cand(2, 1, 20, 0), []api.Cand{cand(9, 9, 0, 0)}, 20, 90)
}

// Of several that claim to be designated the best is it; the others are no
// backup, but for self, which gives its claim up by a second round.
func TestSeveralAreDesignated(t *testing.T) {
	elects(t, cand(1, 1, 0, 0), []api.Cand{cand(2, 1, 20, 0), cand(3, 1, 30, 0)}, 30, 10)
	elects(t, cand(1, 1, 0, 0), []api.Cand{cand(2, 2, 20, 0), cand(3, 1, 30, 0), cand(4, 0, 40, 0)}, 20, 10)
	elects(t, cand(1, 0, 10, 0), []api.Cand{cand(2, 1, 20, 0), cand(3, 1, 30, 0), cand(4, 1, 40, 0)}, 40, 0)
	elects(t, cand(5, 5, 50, 0), []api.Cand{cand(2, 1, 20, 0), cand(3, 1, 30, 0)}, 50, 0)
	elects(t, cand(1, 1, 10, 0), []api.Cand{cand(2, 2, 20, 0)}, 20, 10)
	elects(t, cand(1, 1, 10, 0), []api.Cand{cand(2, 1, 20, 0), cand(3, 1, 30, 0), cand(4, 1, 0, 40)}, 30, 40)
}

// One that claims the backup is it, however much better others are that claim
// nothing; of several the best.
func TestWhoIsTheBackup(t *testing.T) {
	elects(t, cand(9, 9, 20, 30), []api.Cand{cand(2, 1, 20, 30), cand(3, 1, 20, 30)}, 20, 30)
	elects(t, cand(9, 9, 0, 0), []api.Cand{cand(2, 1, 20, 0), cand(3, 1, 20, 30), cand(8, 8, 0, 0)}, 20, 30)
	elects(t, cand(1, 1, 0, 0), []api.Cand{cand(2, 1, 20, 0), cand(3, 1, 0, 30), cand(4, 1, 0, 40)}, 20, 40)
	elects(t, cand(1, 1, 0, 0), []api.Cand{cand(2, 1, 20, 0), cand(3, 2, 0, 30), cand(4, 1, 0, 40), cand(5, 0, 0, 50)}, 20, 30)
	elects(t, cand(1, 1, 20, 10), []api.Cand{cand(2, 1, 20, 10), cand(9, 9, 20, 0)}, 20, 10)
	elects(t, cand(4, 1, 20, 40), []api.Cand{cand(2, 1, 20, 0), cand(3, 1, 0, 30)}, 20, 40)
	elects(t, cand(3, 1, 20, 30), []api.Cand{cand(2, 1, 20, 0), cand(4, 1, 0, 40)}, 20, 40)
}

// Where nobody claims the backup it is the best of those that are left: of
// them who claims to be designated is none, however good.
func TestTheBackupOfThoseThatAreLeft(t *testing.T) {
	elects(t, cand(1, 1, 90, 0), []api.Cand{cand(9, 9, 90, 0), cand(8, 8, 80, 0), cand(2, 2, 90, 0), cand(3, 1, 0, 0)}, 90, 20)
	elects(t, cand(3, 3, 90, 0), []api.Cand{cand(9, 9, 90, 0), cand(2, 2, 90, 70)}, 90, 30)
	elects(t, cand(1, 1, 0, 0), []api.Cand{cand(9, 9, 90, 0), cand(8, 0, 0, 0)}, 90, 10)
}

// All that are left claim to be designated: nobody is the backup.
func TestNobodyIsTheBackup(t *testing.T) {
	elects(t, cand(5, 5, 50, 0), []api.Cand{cand(2, 2, 20, 0)}, 50, 0)
	elects(t, cand(5, 0, 50, 50), []api.Cand{cand(2, 2, 20, 0), cand(3, 1, 30, 0)}, 20, 0)
	elects(t, cand(5, 5, 50, 20), []api.Cand{cand(2, 2, 20, 20), cand(3, 0, 0, 30)}, 50, 0)
	elects(t, cand(1, 1, 10, 0), []api.Cand{cand(3, 0, 0, 30), cand(4, 0, 0, 0)}, 10, 0)
}

// Who claims both claims to be designated alone.
func TestOneClaimsBoth(t *testing.T) {
	elects(t, cand(1, 1, 20, 0), []api.Cand{cand(2, 1, 20, 20)}, 20, 10)
	elects(t, cand(1, 1, 20, 10), []api.Cand{cand(2, 9, 20, 20)}, 20, 10)
	elects(t, cand(1, 0, 0, 0), []api.Cand{cand(2, 1, 20, 20)}, 20, 0)
	elects(t, cand(1, 0, 0, 0), []api.Cand{cand(2, 9, 20, 20), cand(3, 1, 20, 0)}, 20, 30)
	elects(t, cand(1, 1, 10, 10), nil, 10, 0)
	elects(t, cand(1, 1, 10, 10), []api.Cand{cand(2, 9, 10, 0)}, 10, 20)
	elects(t, cand(1, 1, 10, 10), []api.Cand{cand(2, 9, 20, 20), cand(3, 1, 0, 0)}, 20, 30)
	elects(t, cand(4, 1, 40, 40), []api.Cand{cand(2, 9, 20, 20), cand(3, 1, 0, 0)}, 20, 40)
}

// Nobody claims to be designated: the backup takes the place, and is told as
// both.
func TestTheBackupTakesThePlace(t *testing.T) {
	elects(t, cand(1, 1, 0, 0), []api.Cand{cand(2, 1, 0, 0)}, 20, 20)
	elects(t, cand(1, 9, 90, 20), []api.Cand{cand(2, 1, 90, 20), cand(3, 5, 90, 20)}, 20, 20)
	elects(t, cand(1, 9, 0, 0), []api.Cand{cand(2, 1, 0, 20), cand(3, 2, 0, 30)}, 30, 30)
	elects(t, cand(1, 0, 10, 0), []api.Cand{cand(2, 1, 0, 0), cand(3, 2, 0, 0)}, 30, 30)
}

// betterPairs are pairs, the better one ahead: the Prio counts, then the Id, then
// the Addr, as the numbers that they are.
func betterPairs() [][2]api.Cand {
	one := func(prio, id, addr int) api.Cand { return api.Cand{Prio: prio, Id: id, Addr: addr} }
	return [][2]api.Cand{
		{one(2, 1, 1), one(1, 2, 2)},
		{one(2, 1, 2), one(1, 2, 1)},
		{one(2, 2, 1), one(1, 1, 2)},
		{one(256, 1, 1), one(255, 9, 9)},
		{one(1<<32, 1, 1), one(255, 9, 9)},
		{one(math.MaxInt, 1, 1), one(1, 9, 9)},
		{one(math.MaxInt, 1, 1), one(math.MaxInt-1, 9, 9)},
		{one(1, 2, 1), one(1, 1, 2)},
		{one(1, 1<<32-1, 1), one(1, 1<<31, 2)},
		{one(1, 1<<31, 1), one(1, 1, 2)},
		{one(1, 1<<32, 1), one(1, 1<<32-1, 2)},
		{one(1, 0, 1), one(1, -1, 2)},
		{one(1, -1, 1), one(1, -2, 2)},
		{one(1, math.MaxInt, 1), one(1, math.MinInt, 2)},
		{one(1, 1, 2), one(1, 1, 1)},
		{one(1, 1, 1<<32-1), one(1, 1, 1<<31-1)},
		{one(1, 1, 1<<31), one(1, 1, 1)},
		{one(1, 1, 1<<32), one(1, 1, 1<<32-1)},
		{one(1, 1, 3), one(1, 1, -3)},
		{one(1, 1, math.MaxInt), one(1, 1, math.MinInt)},
	}
}

// The best counts alike among those that claim to be designated, those that
// claim the backup, and those that are left; self is one of them as any other.
func TestTheBest(t *testing.T) {
	const none = 5 // nobody's Addr
	self := api.Cand{Id: 7, Addr: 70, Dr: none, Bdr: none}
	for _, pair := range betterPairs() {
		a, b := pair[0], pair[1]
		designated := []api.Cand{says(a, a.Addr, none), says(b, b.Addr, none)}
		backups := []api.Cand{says(a, none, a.Addr), says(b, none, b.Addr)}
		left := []api.Cand{says(a, none, none), says(b, none, none)}
		elects(t, self, designated, a.Addr, 0)
		elects(t, self, backups, a.Addr, a.Addr)
		elects(t, self, left, a.Addr, a.Addr)
		for i, other := range []int{1, 0} {
			rounds(t, designated[i], designated[other:other+1], a.Addr, 0, a.Addr, []int{0, b.Addr}[i])
			rounds(t, backups[i], backups[other:other+1], a.Addr, a.Addr, a.Addr, []int{b.Addr, a.Addr}[i])
			rounds(t, left[i], left[other:other+1], a.Addr, a.Addr, a.Addr, []int{b.Addr, a.Addr}[i])
		}
	}
}

// The best of many, wherever it stands: of every third Id the Prio is 3, and 40
// is none of those.
func TestTheBestOfMany(t *testing.T) {
	var l []api.Cand
	for i := range 40 {
		id := 1 + i*17%40
		l = append(l, cand(id, 1+(id+2)%3, 0, 0))
	}
	elects(t, cand(99, 0, 0, 0), l, 390, 390)
	elects(t, cand(99, 2, 0, 0), l, 390, 390)
	elects(t, cand(99, 3, 0, 0), l, 990, 390)
	elects(t, cand(99, 3, 0, 990), l, 990, 390)
}

// Self comes to be designated by the first round: by the second it says so, so
// that another one is the backup.
func TestSelfComesToBeDesignated(t *testing.T) {
	rounds(t, cand(2, 1, 0, 0), []api.Cand{cand(1, 1, 0, 0)}, 20, 20, 20, 10)
	rounds(t, cand(3, 1, 0, 0), []api.Cand{cand(1, 1, 0, 0), cand(2, 1, 0, 0)}, 30, 30, 30, 20)
	rounds(t, cand(3, 1, 90, 30), []api.Cand{cand(1, 1, 90, 30), cand(2, 1, 90, 30)}, 30, 30, 30, 20)
	rounds(t, cand(3, 2, 90, 30), []api.Cand{cand(1, 1, 90, 10), cand(2, 3, 0, 0)}, 30, 30, 30, 10)
	rounds(t, cand(3, 1, 0, 0), nil, 30, 30, 30, 0)
}

// Self comes to be the backup by the first round: by the second one it says
// so, which turns nothing but what the first one told.
func TestSelfComesToBeTheBackup(t *testing.T) {
	rounds(t, cand(1, 9, 0, 0), []api.Cand{cand(2, 1, 20, 0)}, 20, 10, 20, 10)
	rounds(t, cand(3, 1, 20, 40), []api.Cand{cand(2, 1, 20, 40), cand(1, 1, 20, 40)}, 20, 30, 20, 30)
	if !turned(cand(1, 9, 0, 0), 20, 10) {
		t.Error("10.2: no second round for one that comes to be the backup")
	}
}

// Self ceases to be designated, by the first round: by the second it is one of
// those that are left, or the backup.
func TestSelfCeasesToBeDesignated(t *testing.T) {
	rounds(t, cand(1, 1, 10, 0), []api.Cand{cand(2, 2, 20, 0)}, 20, 0, 20, 10)
	rounds(t, cand(1, 1, 10, 20), []api.Cand{cand(2, 2, 20, 10)}, 20, 0, 20, 10)
	rounds(t, cand(3, 3, 30, 10), []api.Cand{cand(4, 4, 40, 0), cand(2, 2, 0, 0)}, 40, 20, 40, 30)
	rounds(t, cand(3, 3, 30, 10), []api.Cand{cand(4, 4, 40, 0), cand(2, 2, 0, 20)}, 40, 20, 40, 20)
	rounds(t, cand(3, 3, 30, 30), []api.Cand{cand(4, 4, 40, 0), cand(2, 2, 0, 20)}, 40, 20, 40, 20)
	rounds(t, cand(3, 0, 30, 0), []api.Cand{cand(4, 4, 0, 0)}, 40, 40, 40, 40)
}

// Self ceases to be the backup, by the first round: what it said then counts
// no more.
func TestSelfCeasesToBeTheBackup(t *testing.T) {
	rounds(t, cand(3, 1, 20, 30), []api.Cand{cand(2, 1, 20, 0), cand(4, 1, 20, 40)}, 20, 40, 20, 40)
	rounds(t, cand(2, 1, 0, 20), []api.Cand{cand(1, 7, 0, 10), cand(3, 1, 0, 0)}, 10, 10, 10, 10)
	rounds(t, cand(3, 1, 20, 30), []api.Cand{cand(1, 1, 0, 0)}, 30, 30, 30, 10)
	rounds(t, cand(3, 0, 20, 30), []api.Cand{cand(2, 1, 20, 0), cand(1, 1, 0, 0)}, 20, 10, 20, 10)
	if !turned(cand(3, 1, 20, 30), 20, 40) {
		t.Error("10.2: no second round for one that ceases to be the backup")
	}
}

// Self stays what it was: there is no second round, though the first one tells
// another pair than it said.
func TestSelfStaysWhatItWas(t *testing.T) {
	for _, c := range []struct {
		self    api.Cand
		l       []api.Cand
		dr, bdr int
	}{
		{cand(1, 1, 0, 0), []api.Cand{cand(2, 1, 0, 0)}, 20, 20},
		{cand(1, 1, 90, 80), []api.Cand{cand(2, 1, 20, 0), cand(3, 1, 20, 0)}, 20, 30},
		{cand(1, 5, 10, 90), []api.Cand{cand(2, 2, 20, 0)}, 10, 0},
		{cand(1, 5, 10, 90), []api.Cand{cand(2, 2, 0, 0)}, 10, 20},
		{cand(1, 1, 90, 10), []api.Cand{cand(2, 1, 20, 0), cand(9, 9, 20, 0)}, 20, 10},
		{cand(1, 0, 90, 90), []api.Cand{cand(2, 1, 20, 0), cand(9, 9, 20, 0)}, 20, 90},
	} {
		if turned(c.self, c.dr, c.bdr) {
			t.Errorf("10.2: a second round for %+v, which stays what it was by %d, %d", c.self, c.dr, c.bdr)
		}
		rounds(t, c.self, c.l, c.dr, c.bdr, c.dr, c.bdr)
	}
}

// Whether there is a second round hangs on what self is and said itself to be,
// and on nothing else.
func TestTurned(t *testing.T) {
	for _, c := range []struct {
		self    api.Cand
		dr, bdr int
		want    bool
	}{
		{cand(1, 1, 10, 10), 10, 10, false},
		{cand(1, 1, 10, 20), 10, 30, false},
		{cand(1, 1, 20, 10), 30, 10, false},
		{cand(1, 1, 20, 30), 40, 50, false},
		{cand(1, 1, 0, 0), 40, 0, false},
		{cand(1, 1, 20, 30), 10, 30, true},
		{cand(1, 1, 20, 30), 20, 10, true},
		{cand(1, 1, 20, 30), 10, 10, true},
		{cand(1, 1, 10, 30), 20, 30, true},
		{cand(1, 1, 20, 10), 20, 30, true},
		{cand(1, 1, 10, 10), 20, 30, true},
		{cand(1, 1, 10, 20), 20, 10, true},
		{cand(1, 1, 20, 10), 10, 20, true},
	} {
		if got := turned(c.self, c.dr, c.bdr); got != c.want {
			t.Errorf("10.2: turned(%+v, %d, %d) = %t, want %t", c.self, c.dr, c.bdr, got, c.want)
		}
	}
}

// Who says 0 names nobody, but for one whose Addr is 0: it claims as any other
// does, and is told, though its Addr looks like none.
func TestAddrNought(t *testing.T) {
	elects(t, cand(1, 1, 0, 0), []api.Cand{cand(2, 1, 20, 0), cand(3, 2, 0, 0)}, 20, 30)
	elects(t, cand(1, 1, 0, 10), []api.Cand{cand(2, 1, 0, 0)}, 10, 20)

	nought := func(dr, bdr int) api.Cand { return api.Cand{Id: 9, Addr: 0, Prio: 9, Dr: dr, Bdr: bdr} }
	elects(t, nought(0, 0), nil, 0, 0)
	elects(t, nought(5, 5), nil, 0, 0)
	elects(t, cand(1, 1, 5, 5), []api.Cand{nought(0, 0)}, 0, 10)
	elects(t, cand(1, 1, 5, 10), []api.Cand{nought(0, 5), cand(2, 1, 5, 5)}, 0, 10)
	elects(t, cand(1, 1, 10, 5), []api.Cand{nought(5, 0), cand(2, 1, 5, 20)}, 10, 0)
	elects(t, cand(1, 1, 10, 5), []api.Cand{nought(5, 5), cand(2, 1, 5, 5)}, 10, 0)
	elects(t, cand(1, 1, 5, 5), []api.Cand{nought(5, 0), cand(2, 1, 5, 20)}, 0, 0)
	elects(t, nought(5, 0), []api.Cand{cand(2, 1, 5, 5)}, 0, 20)
	elects(t, nought(0, 5), []api.Cand{cand(2, 1, 20, 5), cand(3, 1, 5, 5)}, 0, 30)
}

// Numbers that no address is count as they are: no bits of them are dropped.
func TestNumbersThatAreNoAddress(t *testing.T) {
	for _, addr := range []int{-1, 1 << 32, 1<<32 + 10, -1 << 32, math.MinInt, math.MaxInt} {
		one := api.Cand{Id: 2, Addr: addr, Prio: 1}
		elects(t, says(one, 0, 0), nil, addr, 0)
		elects(t, cand(1, 1, 0, 0), []api.Cand{says(one, addr, 0)}, addr, 10)
		elects(t, cand(1, 1, 10, 0), []api.Cand{says(one, 0, addr), cand(3, 1, 0, 0)}, 10, addr)
		elects(t, cand(1, 1, 10, 0), []api.Cand{says(one, int(uint32(addr))+1<<33, 0)}, 10, addr)
	}
}

// One that stands in the list twice, and one that has self's Addr: what is
// told are Addrs, so that who has the Addr is it.
func TestSeveralOfOneAddr(t *testing.T) {
	one := cand(2, 1, 0, 0)
	elects(t, cand(1, 1, 0, 0), []api.Cand{one, one}, 20, 20)
	elects(t, one, []api.Cand{one}, 20, 20)
	elects(t, cand(1, 1, 20, 0), []api.Cand{says(one, 20, 0), one}, 20, 20)

	twin := api.Cand{Id: 9, Addr: 10, Prio: 1, Dr: 10}
	rounds(t, cand(1, 1, 0, 10), []api.Cand{twin, cand(2, 1, 0, 0)}, 10, 10, 10, 20)
	rounds(t, cand(1, 1, 10, 0), []api.Cand{twin, cand(2, 1, 0, 0)}, 10, 20, 10, 20)
}

// Each self and each list of up to two that a few numbers can make, held
// against 10.1 and 10.2 said anew.
func TestAllOfAFew(t *testing.T) {
	all := everyCand([]int{0, 1, 2}, []int{0, 1, 2}, []int{0, 1, 2})
	l := make([]api.Cand, 2)
	for _, self := range all {
		againstAnew(t, self, nil)
		for _, a := range all {
			l[0] = a
			againstAnew(t, self, l[:1])
			for _, b := range all {
				l[1] = b
				againstAnew(t, self, l)
			}
		}
		if t.Failed() {
			return
		}
	}
}

// Lists of many lengths, in several orders, held against the promises said
// anew.
func TestDrawn(t *testing.T) {
	var d draw
	for n := range 30000 {
		self, l := d.cand(), d.list(n%10)
		dr, bdr := electAnew(self, l)
		for _, o := range turns(l) {
			againstAnew(t, self, o)
		}
		if gotDr, gotBdr := Elect(self, l); gotDr != dr || gotBdr != bdr {
			t.Fatalf("10.2: Elect(%+v, %+v) = %d, %d, want %d, %d", self, l, gotDr, gotBdr, dr, bdr)
		}
	}
}

func againstAnew(t *testing.T, self api.Cand, l []api.Cand) {
	t.Helper()
	dr, bdr := roundAnew(slices.Concat(l, []api.Cand{self}))
	if gotDr, gotBdr := round(self, l); gotDr != dr || gotBdr != bdr {
		t.Errorf("10.1: round(%+v, %+v) = %d, %d, want %d, %d", self, l, gotDr, gotBdr, dr, bdr)
	}
	dr, bdr = electAnew(self, l)
	if gotDr, gotBdr := Elect(self, l); gotDr != dr || gotBdr != bdr {
		t.Errorf("10.2: Elect(%+v, %+v) = %d, %d, want %d, %d", self, l, gotDr, gotBdr, dr, bdr)
	}
}

// What follows

// The order of l is nothing to it, whatever they say.
func TestTheOrderIsNothing(t *testing.T) {
	var d draw
	for n := range 3000 {
		self, l := d.cand(), d.list(1+n%5)
		dr, bdr := Elect(self, l)
		elects(t, self, l, dr, bdr)
		if t.Failed() {
			return
		}
	}
}

// Each net of a few routers, and each pair that all of them may say: where a
// round tells it, Elect tells it to each; and there are such pairs.
func TestWhatAllSayStays(t *testing.T) {
	stays := 0
	for _, prios := range [][]int{{1}, {0, 1}, {1, 1}, {2, 1}, {1, 1, 1}, {1, 2, 3}, {3, 2, 1}, {0, 1, 1}, {1, 0, 2}, {0, 0, 1}, {0, 0}, {2, 2, 1, 0}} {
		var l []api.Cand
		said := []int{0, 90}
		for i, prio := range prios {
			l = append(l, cand(i+1, prio, 0, 0))
			said = append(said, l[i].Addr)
		}
		for _, dr := range said {
			for _, bdr := range said {
				all := allSay(l, dr, bdr)
				if d, b := roundAnew(all); d != dr || b != bdr {
					continue
				}
				stays++
				for i, self := range all {
					elects(t, self, without(all, i), dr, bdr)
				}
			}
		}
	}
	if stays < 30 {
		t.Errorf("10.3: only %d pairs were asked", stays)
	}
}

// goesOn lets a net elect until all say one pair that a round of them tells:
// that must be the pair wanted, and stay.
func goesOn(t *testing.T, l []api.Cand, dr, bdr int) []api.Cand {
	t.Helper()
	for range 2 * len(l) {
		if d, b := roundAnew(l); sayOne(l) && d == l[0].Dr && b == l[0].Bdr {
			break
		}
		l = hearAll(l)
	}
	if want := allSay(l, dr, bdr); !slices.Equal(l, want) || !slices.Equal(hearAll(l), want) {
		t.Errorf("10.3: they come to say %+v, and then %+v, want %d, %d", l, hearAll(l), dr, bdr)
	}
	return hearAll(hearAll(l))
}

// Several that hear all that the others say, round by round: they come to say
// one pair, the best two that begin; who comes later, and be it better, turns
// nothing; where one goes the next one comes up.
func TestRoundByRound(t *testing.T) {
	begin := []api.Cand{cand(1, 1, 0, 0), cand(2, 2, 0, 0), cand(3, 1, 0, 0), cand(4, 0, 0, 0), cand(5, 1, 0, 0)}
	for _, l := range turns(begin) {
		l = goesOn(t, l, 20, 50)
		l = goesOn(t, append(l, cand(9, 9, 0, 0)), 20, 50)
		l = goesOn(t, those(l, func(c api.Cand) bool { return c.Id != 2 }), 50, 90)
		l = goesOn(t, append(l, cand(2, 2, 0, 0)), 50, 90)
		l = goesOn(t, those(l, func(c api.Cand) bool { return c.Id != 9 }), 50, 20)
		l = goesOn(t, those(l, func(c api.Cand) bool { return c.Id != 5 && c.Id != 2 }), 30, 10)
		l = goesOn(t, those(l, func(c api.Cand) bool { return c.Id != 3 }), 10, 0)
		goesOn(t, those(l, func(c api.Cand) bool { return c.Id != 1 }), 0, 0)
	}
}

// Two nets that come together, each with a pair of its own.
func TestTwoNetsComeTogether(t *testing.T) {
	left := goesOn(t, []api.Cand{cand(1, 1, 0, 0), cand(2, 3, 0, 0), cand(3, 1, 0, 0)}, 20, 30)
	right := goesOn(t, []api.Cand{cand(7, 2, 0, 0), cand(8, 1, 0, 0)}, 70, 80)
	goesOn(t, slices.Concat(left, right), 20, 80)
}
