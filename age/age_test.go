package age

import (
	"math"
	"slices"
	"testing"

	"plenum/api"
	"plenum/base"
	"plenum/lsa"
)

// The Ages at which something turns, and their neighbors.
var edges = []int{0, 1, 899, 900, 901, 1798, 1799, 1800, 1801, 2699, 2700, 3598, 3599, 3600}

func TestTheExampleOfTheChapter(t *testing.T) {
	tells(t, "Tick", Tick(filled(t, router(1, 1, 3599))), api.Key{Kind: 1, Id: 1, Adv: 1})
}

// Each of the calls, at each Age, of one advertisement of each Kind.
func TestOne(t *testing.T) {
	for _, age := range edges {
		for _, l := range []api.Lsa{router(5, 7, age), network(5, 7, age), group(5, 7, age)} {
			var ticked, old, dead []api.Key
			later := l
			if age < 3600 {
				later.Head.Age = age + 1
			}
			if age == 3599 {
				ticked = []api.Key{keyAt(l)}
			}
			if age >= 1800 && age < 3600 {
				old = []api.Key{keyAt(l)}
			}
			if age == 3600 {
				dead = []api.Key{keyAt(l)}
			}
			b := filled(t, l)
			tells(t, "Old", Old(b, 7), old...)
			tells(t, "Old of another", Old(b, 5))
			tells(t, "Dead", Dead(b), dead...)
			holds(t, "Old, Dead", b, l)
			tells(t, "Tick", Tick(b), ticked...)
			holds(t, "Tick", b, later)

			b = filled(t, l)
			kills(t, b, keyAt(l), age < 3600)
			holds(t, "Kill", b, aged([]api.Lsa{l}, 3600)...)
		}
	}
}

// An Age comes to MaxAge once: it is told by that Tick and by no other, while
// it is Dead from then on.
func TestToldByOneTickAlone(t *testing.T) {
	l := group(1, 1, 3597)
	b := filled(t, l)
	tells(t, "Tick to 3598", Tick(b))
	tells(t, "Tick to 3599", Tick(b))
	tells(t, "Dead at 3599", Dead(b))
	tells(t, "Tick to 3600", Tick(b), keyAt(l))
	for range 3 {
		tells(t, "Dead", Dead(b), keyAt(l))
		tells(t, "Tick of the dead", Tick(b))
		holds(t, "Tick of the dead", b, aged([]api.Lsa{l}, 3600)...)
	}
}

// Old begins by the Tick that comes to RefreshAge, and ends by that which comes
// to MaxAge.
func TestOldFromTickToTick(t *testing.T) {
	l := router(1, 1, 1798)
	b := filled(t, l)
	for age := 1798; age <= 3602; age++ {
		var want []api.Key
		if age >= 1800 && age < 3600 {
			want = []api.Key{keyAt(l)}
		}
		tells(t, "Old", Old(b, 1), want...)
		Tick(b)
	}
}

// Several of each Kind, at Ages of all sorts: who comes to MaxAge, who is old
// and who is dead is told by rising Key; whatever is not named stays.
func TestSeveral(t *testing.T) {
	for shift := range edges {
		ages := slices.Concat(edges[shift:], edges[:shift])
		list := aged(several(0), ages...)
		b := filled(t, list...)
		for adv := range 5 {
			tells(t, "Old", Old(b, adv), keysOf(list, func(l api.Lsa) bool {
				return l.Head.Adv == adv && l.Head.Age >= 1800 && l.Head.Age < 3600
			})...)
		}
		tells(t, "Dead", Dead(b), keysOf(list, func(l api.Lsa) bool { return l.Head.Age == 3600 })...)
		holds(t, "Old, Dead", b, list...)

		later := slices.Clone(list)
		for i, l := range list {
			later[i].Head.Age = min(l.Head.Age+1, 3600)
		}
		tells(t, "Tick", Tick(b), keysOf(list, func(l api.Lsa) bool { return l.Head.Age == 3599 })...)
		holds(t, "Tick", b, later...)
		if b.Len() != len(list) {
			t.Errorf("9.1: Len() = %d behind Tick, want %d", b.Len(), len(list))
		}
	}
}

// All at once: the Keys are told in order, however they were put.
func TestInOrder(t *testing.T) {
	all := func(api.Lsa) bool { return true }
	list := several(3599)
	for shift := range list {
		b := room(t, len(list))
		for _, l := range slices.Concat(list[shift:], list[:shift]) {
			puts(t, b, l)
		}
		for adv, want := range [][]api.Key{
			1: {{Kind: 1, Id: 2, Adv: 1}, {Kind: 2, Id: 1<<32 - 1, Adv: 1}, {Kind: 6, Id: 0, Adv: 1}},
			2: {{Kind: 1, Id: 1, Adv: 2}, {Kind: 1, Id: 2, Adv: 2}, {Kind: 2, Id: 1, Adv: 2}, {Kind: 6, Id: 1 << 31, Adv: 2}},
			3: {{Kind: 1, Id: 9, Adv: 3}, {Kind: 2, Id: 1, Adv: 3}, {Kind: 6, Id: 3, Adv: 3}},
		} {
			tells(t, "Old", Old(b, adv), want...)
		}
		tells(t, "Tick", Tick(b), keysOf(list, all)...)
		tells(t, "Dead", Dead(b), keysOf(list, all)...)
		tells(t, "Tick", Tick(b))
	}
}

// An adv of which there is none, one, several; an Id is no Adv; and numbers
// that no Adv can be.
func TestOldAsksForTheAdv(t *testing.T) {
	one, a, b := router(4, 1, 1800), network(1, 4, 2000), group(4, 4, 3599)
	base := filled(t, one, a, b, group(7, 4, 1799), group(8, 4, 3600), group(9, 5, 1799), group(10, 6, 3600))
	tells(t, "Old", Old(base, 1), keyAt(one))
	tells(t, "Old", Old(base, 4), keyAt(a), keyAt(b))
	for _, adv := range []int{0, 2, 3, 5, 6, 7, -1, 1 << 32, 1<<32 + 1, 1<<32 + 4, -1<<32 + 4, math.MinInt, math.MaxInt} {
		tells(t, "Old of none", Old(base, adv))
	}
	for _, adv := range []int{1 << 31, 1<<32 - 1} {
		l := router(1, adv, 1800)
		tells(t, "Old", Old(filled(t, l), adv), keyAt(l))
	}
}

// Kill turns the one of its Key alone; of a Key that is not there, or is dead
// already, nothing comes.
func TestKillOne(t *testing.T) {
	list := aged(several(0), edges...)
	for i, l := range list {
		b := filled(t, list...)
		kills(t, b, keyAt(l), l.Head.Age != 3600)
		want := slices.Clone(list)
		want[i].Head.Age = 3600
		holds(t, "Kill", b, want...)
		kills(t, b, keyAt(l), false)
		holds(t, "Kill of the dead", b, want...)
	}
}

func TestKillNone(t *testing.T) {
	list := several(7)
	b := filled(t, list...)
	for _, l := range list {
		k := keyAt(l)
		for _, other := range []api.Key{
			{Kind: 0, Id: k.Id, Adv: k.Adv},
			{Kind: k.Kind + 256, Id: k.Id, Adv: k.Adv},
			{Kind: k.Kind, Id: k.Id, Adv: k.Adv + 3},
			{Kind: k.Kind, Id: k.Id, Adv: k.Adv - 1<<32},
			{Kind: k.Kind, Id: k.Id ^ 64, Adv: k.Adv},
			{Kind: k.Kind, Id: k.Id + 1<<32, Adv: k.Adv},
			{Kind: math.MinInt, Id: math.MaxInt, Adv: math.MinInt},
			{},
		} {
			kills(t, b, other, false)
		}
	}
	holds(t, "Kill of none", b, list...)
}

// What was killed comes to MaxAge by no Tick: none tells it.
func TestTheKilledAreDead(t *testing.T) {
	list := several(1800)
	b := filled(t, list...)
	kills(t, b, keyAt(list[0]), true)
	kills(t, b, keyAt(list[6]), true)
	tells(t, "Dead", Dead(b), keyAt(list[0]), keyAt(list[6]))
	tells(t, "Old", Old(b, 1), keyAt(list[1]), keyAt(list[7]))
	tells(t, "Old", Old(b, 2), keyAt(list[2]), keyAt(list[4]), keyAt(list[9]))
	tells(t, "Tick", Tick(b))
	want := aged(list, 1801)
	want[0].Head.Age, want[6].Head.Age = 3600, 3600
	holds(t, "Tick", b, want...)
}

// Of nil, of one that is empty, and of one that base's New did not make.
func TestNone(t *testing.T) {
	for name, b := range map[string]*base.Base{"nil": nil, "an empty one": room(t, 3), "its zero value": {}} {
		for _, adv := range []int{0, 1, -1} {
			tells(t, "Old of "+name, Old(b, adv))
		}
		for _, k := range []api.Key{{}, {Kind: 1, Id: 1, Adv: 1}} {
			kills(t, b, k, false)
		}
		tells(t, "Tick of "+name, Tick(b))
		tells(t, "Dead of "+name, Dead(b))
		holds(t, name, b)
	}
}

// What came and went leaves nothing behind.
func TestTheDroppedAreNotTold(t *testing.T) {
	b := filled(t, router(1, 1, 3599), router(2, 1, 3600))
	b.Drop(api.Key{Kind: 1, Id: 1, Adv: 1})
	b.Drop(api.Key{Kind: 1, Id: 2, Adv: 1})
	tells(t, "Old", Old(b, 1))
	tells(t, "Dead", Dead(b))
	tells(t, "Tick", Tick(b))
	kills(t, b, api.Key{Kind: 1, Id: 1, Adv: 1}, false)
	holds(t, "Drop", b)
}

// A copy goes its own way, whichever of the two is ticked or killed in (R5).
func TestACopyGoesItsOwnWay(t *testing.T) {
	list := aged(several(0), 1799, 3599, 3600)
	for _, swap := range []bool{false, true} {
		one := filled(t, list...)
		other := one.Copy()
		if swap {
			one, other = other, one
		}
		tells(t, "Tick", Tick(one), keyAt(list[1]), keyAt(list[4]), keyAt(list[7]))
		kills(t, one, keyAt(list[0]), true)
		holds(t, "the other", other, list...)
		want := aged(list, 1800, 3600, 3600)
		want[0].Head.Age = 3600
		holds(t, "the one", one, want...)

		kills(t, other, keyAt(list[0]), true)
		tells(t, "Tick of the other", Tick(other), keyAt(list[1]), keyAt(list[4]), keyAt(list[7]))
		holds(t, "the other", other, want...)
	}
}

// The same calls on two that are the same tell the same (R5); asking changes
// nothing.
func TestAskingChangesNothing(t *testing.T) {
	list := aged(several(0), edges...)
	one, other := filled(t, list...), filled(t, list...)
	for range 3 {
		for adv := range 4 {
			Old(one, adv)
		}
		Dead(one)
	}
	holds(t, "asked", one, list...)
	tells(t, "Tick", Tick(one), Tick(other)...)
	holds(t, "asked, ticked", one, other.All()...)
}

// Who writes into what was told, or appends to it, changes neither what is kept
// nor what is told next (R3).
func TestWhatIsToldIsNewMemory(t *testing.T) {
	list := several(3599)
	b := filled(t, list...)
	for name, ask := range map[string]func() []api.Key{
		"Old":  func() []api.Key { return Old(b, 2) },
		"Dead": func() []api.Key { return Dead(b) },
		"Tick": func() []api.Key { return Tick(b.Copy()) },
	} {
		first, second := ask(), ask()
		kept := slices.Clone(second)
		clear(first[:cap(first)])
		tells(t, name+", twice", second, kept...)
		tells(t, name+", again", ask(), kept...)
	}
	told := Tick(b)
	clear(told[:cap(told)])
	holds(t, "written into", b, aged(list, 3600)...)
}

// The greatest database, full of the longest bodies.
func TestTheGreatest(t *testing.T) {
	var list []api.Lsa
	for i := range api.MaxBase {
		l := router(i, 1+i%3, 3599)
		l.Links = slices.Repeat(l.Links, api.MaxList/2)
		list = append(list, lsa.Seal(l))
	}
	b := filled(t, list...)
	if told := Tick(b); len(told) != api.MaxBase || !slices.Equal(told, Dead(b)) {
		t.Errorf("9.1: Tick of a full one tells %d, Dead %d, want %d", len(told), len(Dead(b)), api.MaxBase)
	}
	holds(t, "Tick of a full one", b, aged(list, 3600)...)
}

// What follows

// Each is told by just one of MaxAge Ticks, at whatever Age it began, and is
// Dead behind them.
func TestMaxAgeTicks(t *testing.T) {
	list := aged(several(0), 0, 1, 1799, 1800, 3598, 3599, 3600)
	b := filled(t, list...)
	for n := 1; n <= 3600; n++ {
		tells(t, "Tick", Tick(b), keysOf(list, func(l api.Lsa) bool { return l.Head.Age+n == 3600 })...)
		tells(t, "Dead", Dead(b), keysOf(list, func(l api.Lsa) bool { return l.Head.Age+n >= 3600 })...)
	}
	allDead(t, b, list)
	holds(t, "MaxAge Ticks", b, aged(list, 3600)...)
}

// What is refreshed between begins anew, whether it was alive or dead: all
// others are Dead.
func TestMaxAgeTicksAndOneRefreshed(t *testing.T) {
	for _, at := range []int{1, 1799, 1800, 3599, 3600} {
		list := several(0)
		anew := list[4]
		anew.Bits, anew.Head.Seq = 25, 0
		anew = lsa.Seal(anew)
		b := filled(t, list...)
		for n := 1; n <= 3600; n++ {
			Tick(b)
			if n == at {
				puts(t, b, anew)
			}
		}
		allDead(t, b, list, keyAt(anew))
		anew.Head.Age = 3600 - at
		want := aged(list, 3600)
		want[4] = anew
		holds(t, "MaxAge Ticks, one refreshed", b, want...)

		for range at - 1 {
			tells(t, "Tick of what was refreshed", Tick(b))
		}
		tells(t, "Tick of what was refreshed", Tick(b), keyAt(anew))
		allDead(t, b, list)
	}
}

// One instance may come again with a lesser Age while it is alive: it has that
// Age now.
func TestRefreshedByTheSameInstance(t *testing.T) {
	b := filled(t, group(1, 1, 0), group(2, 1, 0))
	for n := 1; n <= 3600; n++ {
		if n == 1000 {
			puts(t, b, group(2, 1, 0))
		}
		Tick(b)
	}
	allDead(t, b, b.All(), api.Key{Kind: 6, Id: 2, Adv: 1})
	holds(t, "refreshed by the same", b, group(1, 1, 3600), group(2, 1, 2601))
}

// Ways

// Each state of an Age has those behind it: what is fresh is alive as well.
func TestStatesFallThrough(t *testing.T) {
	for age, want := range map[int]int{
		0: fresh | alive, 1799: fresh | alive,
		1800: alive, 3599: alive,
		3600: 0,
	} {
		if said := state(age); said != want {
			t.Errorf("state(%d) = %b, want %b", age, said, want)
		}
	}
}
