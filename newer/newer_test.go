package newer

import (
	"math"
	"math/big"
	"testing"

	"plenum/api"
)

// head is one with what 7.1 asks of, and nothing else.
func head(seq, sum, age int) api.Head {
	return api.Head{Seq: seq, Sum: sum, Age: age}
}

// seqs are sequence numbers, rising: ordinary ones, the first and the last,
// and such as no right head has.
func seqs() []int {
	return []int{math.MinInt, api.FirstSeq - 1, api.FirstSeq, -2, -1, 0, 1, 2, api.LastSeq - 1, api.LastSeq, api.LastSeq + 1, math.MaxInt}
}

// sums are check sums, rising, and such as no right head has.
func sums() []int {
	return []int{math.MinInt, -1, 0, 1, 255, 256, 65534, 65535, 65536, math.MaxInt}
}

// ages are Ages, rising: about 0, AgeDiff and MaxAge, what lies AgeDiff from
// those, and such as no right head has.
func ages() []int {
	return []int{
		math.MinInt, math.MinInt + 900, math.MinInt + 901, -1 << 32, -901, -900, -899, -1,
		0, 1, 100, 899, 900, 901, 1000, 1800, 2698, 2699, 2700, 2701, 3598, 3599,
		3600, 3601, 4499, 4500, 4501, 9999, 1 << 32, math.MaxInt - 901, math.MaxInt - 900, math.MaxInt,
	}
}

// holds asks a pair both ways round: what 7.1 says of it, and 7.2's other sign.
func holds(t *testing.T, a, b api.Head, want int) {
	t.Helper()
	if got := Cmp(a, b); got != want {
		t.Errorf("7.1: Cmp(%+v, %+v) = %d, want %d", a, b, got, want)
	}
	if got := Cmp(b, a); got != -want {
		t.Errorf("7.2: Cmp(%+v, %+v) = %d, want %d", b, a, got, -want)
	}
}

// sign is which of two numbers is the greater, as 1, -1 or 0.
func sign(x, y int) int {
	switch {
	case x > y:
		return 1
	case x < y:
		return -1
	}
	return 0
}

// wanted says 7.1 over numbers that know no end.
func wanted(a, b api.Head) int {
	if a.Seq != b.Seq {
		return sign(a.Seq, b.Seq)
	}
	if a.Sum != b.Sum {
		return sign(a.Sum, b.Sum)
	}
	if a.Age >= 3600 && b.Age < 3600 {
		return 1
	}
	if b.Age >= 3600 && a.Age < 3600 {
		return -1
	}
	less := new(big.Int).Sub(big.NewInt(int64(b.Age)), big.NewInt(int64(a.Age)))
	if less.CmpAbs(big.NewInt(900)) > 0 {
		return less.Sign()
	}
	return 0
}

func TestTheExampleOfTheChapter(t *testing.T) {
	holds(t, head(2, 0, 0), head(1, 0, 0), 1)
}

// The greater Seq tells, whatever stands against it in the steps behind.
func TestTheGreaterSeqIsNewer(t *testing.T) {
	all := seqs()
	for i, great := range all {
		for _, less := range all[:i] {
			holds(t, head(great, 7, 7), head(less, 7, 7), 1)
			holds(t, head(great, 0, 7), head(less, 65535, 7), 1)
			holds(t, head(great, 7, 3599), head(less, 7, 3600), 1)
			holds(t, head(great, 7, 2000), head(less, 7, 0), 1)
			holds(t, head(great, 0, 3599), head(less, 65535, 3600), 1)
		}
	}
}

// With Seqs alike the greater Sum tells, whatever the Ages are.
func TestTheGreaterSumIsNewer(t *testing.T) {
	all := sums()
	for _, seq := range seqs() {
		for i, great := range all {
			for _, less := range all[:i] {
				holds(t, head(seq, great, 7), head(seq, less, 7), 1)
				holds(t, head(seq, great, 3599), head(seq, less, 3600), 1)
				holds(t, head(seq, great, 2000), head(seq, less, 0), 1)
			}
		}
	}
}

// With Seqs and Sums alike, that whose Age alone is at its end is newer,
// though it is the greater Age, and however near or far the other one is.
func TestTheEndedIsNewer(t *testing.T) {
	for _, end := range []int{3600, 3601, 4499, 4500, 4501, 65535, math.MaxInt} {
		for _, age := range []int{math.MinInt, -1, 0, 1, 2698, 2699, 2700, 3598, 3599} {
			holds(t, head(5, 7, end), head(5, 7, age), 1)
		}
	}
}

// Where both are at their end, or neither is, the lesser Age is newer, from
// one more than AgeDiff on.
func TestTheLesserAgeIsNewer(t *testing.T) {
	for _, c := range []struct{ less, great, want int }{
		{0, 899, 0}, {0, 900, 0}, {0, 901, 1},
		{100, 999, 0}, {100, 1000, 0}, {100, 1001, 1},
		{-450, 449, 0}, {-450, 450, 0}, {-450, 451, 1},
		{-901, -2, 0}, {-901, -1, 0}, {-901, 0, 1},
		{2700, 3599, 0}, {2699, 3599, 0}, {2698, 3599, 1},
		{3600, 4499, 0}, {3600, 4500, 0}, {3600, 4501, 1},
		{0, 3599, 1}, {0, 1, 0}, {3600, 3601, 0}, {3600, 9999, 1},
	} {
		holds(t, head(5, 7, c.less), head(5, 7, c.great), c.want)
		holds(t, head(-5, 65535, c.less), head(-5, 65535, c.great), c.want)
	}
}

// Ages whose difference is no int, or becomes one of another sign, or a small
// one, if it is cut to fewer bits.
func TestAgesFarApart(t *testing.T) {
	for _, c := range []struct{ less, great, want int }{
		{math.MinInt, 0, 1}, {math.MinInt, 3599, 1}, {math.MinInt, -1, 1},
		{math.MinInt, math.MaxInt, -1}, {math.MinInt, 3600, -1},
		{math.MinInt + 1, math.MaxInt, -1}, {-1, math.MaxInt, -1}, {0, math.MaxInt, -1},
		{3600, math.MaxInt, 1}, {math.MinInt + 3599, 3599, 1}, {math.MinInt + 3600, 3599, 1},
		{math.MinInt, math.MinInt + 900, 0}, {math.MinInt, math.MinInt + 901, 1},
		{math.MaxInt - 900, math.MaxInt, 0}, {math.MaxInt - 901, math.MaxInt, 1},
		{-1 << 32, 0, 1}, {-1 << 32, 100, 1}, {-1<<32 + 900, 0, 1},
		{4000, 4000 + 1<<32, 1}, {4000, 4000 + 1<<16, 1},
	} {
		holds(t, head(5, 7, c.less), head(5, 7, c.great), c.want)
	}
}

// Every pair of edges, held against 7.1 said anew.
func TestAllPairsOfEdges(t *testing.T) {
	var all []api.Head
	for _, seq := range []int{math.MinInt, api.FirstSeq, -1, 0, 1, api.LastSeq, math.MaxInt} {
		for _, sum := range []int{math.MinInt, 0, 1, 65535, math.MaxInt} {
			for _, age := range ages() {
				all = append(all, head(seq, sum, age))
			}
		}
	}
	for _, a := range all {
		for _, b := range all {
			if got, want := Cmp(a, b), wanted(a, b); got != want {
				t.Fatalf("7.1: Cmp(%+v, %+v) = %d, want %d", a, b, got, want)
			}
			if Cmp(b, a) != -Cmp(a, b) {
				t.Fatalf("7.2: Cmp of %+v and %+v has not the other sign", b, a)
			}
		}
	}
}

// A head and itself are one instance, wrong ones too.
func TestOneAndItself(t *testing.T) {
	for _, seq := range seqs() {
		for _, sum := range sums() {
			for _, age := range ages() {
				holds(t, head(seq, sum, age), head(seq, sum, age), 0)
			}
		}
	}
}

// unlike are a head's copies that are unlike it in one thing that is not asked,
// and one that is unlike it in all of them.
func unlike(h api.Head) []api.Head {
	kind, id, adv, size, all := h, h, h, h, h
	kind.Kind, id.Id, adv.Adv, size.Len = 6, math.MaxInt, math.MinInt, 65535
	all.Kind, all.Id, all.Adv, all.Len = -1, -1, 1<<32, math.MaxInt
	return []api.Head{kind, id, adv, size, all}
}

// Kind, Id, Adv and Len turn nothing: neither where all else is alike, nor
// where a step tells.
func TestItAsksNothingElse(t *testing.T) {
	h := api.Head{Age: 1000, Kind: api.LsaRouter, Id: 2, Adv: 3, Seq: 5, Sum: 7, Len: 24}
	seq, sum, end, age := h, h, h, h
	seq.Seq, sum.Sum, end.Age, age.Age = 6, 8, 3600, 99
	for _, u := range unlike(h) {
		holds(t, h, u, 0)
		for _, newer := range []api.Head{seq, sum, end, age} {
			holds(t, newer, u, 1)
		}
	}
	for _, newer := range []api.Head{seq, sum, end, age} {
		for _, u := range unlike(newer) {
			holds(t, u, h, 1)
		}
	}
}
