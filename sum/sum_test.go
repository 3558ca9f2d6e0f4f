package sum

import (
	"bytes"
	"math"
	"math/big"
	"testing"
)

// some is n bytes of everywhere, always the same for one seed.
func some(n int, seed uint32) []byte {
	b := make([]byte, n)
	for i := range b {
		seed = seed*1664525 + 1013904223
		b[i] = byte(seed >> 24)
	}
	return b
}

// samples are lists of each small length, of longer ones, and of bytes at their ends.
func samples() [][]byte {
	var all [][]byte
	for n := range 40 {
		all = append(all, some(n, uint32(n)), bytes.Repeat([]byte{0}, n), bytes.Repeat([]byte{255}, n), bytes.Repeat([]byte{1}, n), bytes.Repeat([]byte{254}, n))
	}
	for _, n := range []int{253, 254, 255, 256, 257, 509, 510, 511, 1000, 70001} {
		all = append(all, some(n, uint32(n)), bytes.Repeat([]byte{255}, n), bytes.Repeat([]byte{254}, n))
	}
	return all
}

// inet tells Inet by another way: end-around carries make the sum a rest
// modulo 65535, where only nothing but noughts stays 0.
func inet(b []byte) int {
	padded := bytes.Clone(b)
	if len(padded)%2 == 1 {
		padded = append(padded, 0)
	}
	number := new(big.Int).SetBytes(padded)
	rest := int(new(big.Int).Mod(number, big.NewInt(65535)).Int64())
	if rest == 0 && number.Sign() != 0 {
		rest = 65535
	}
	return 65535 - rest
}

// both tells the two sums by the words of 2.2, place by place.
func both(b []byte) (c, d int) {
	for i, v := range b {
		c += int(v)
		d += int(v) * (len(b) - i) % 255
	}
	return c % 255, d % 255
}

// with is b with the pair p at that place.
func with(b []byte, at, p int) []byte {
	b = bytes.Clone(b)
	b[at], b[at+1] = byte(p>>8), byte(p)
	return b
}

// places are some of b's places for a pair, with the first and the last.
func places(b []byte) []int {
	var all []int
	for at := 0; at < len(b)-2; at += 1 + len(b)/20 {
		all = append(all, at)
	}
	if len(b) >= 2 {
		all = append(all, len(b)-2)
	}
	return all
}

// 2.1

func TestInetOfKnown(t *testing.T) {
	for _, c := range []struct {
		b    []byte
		want int
	}{
		{nil, 65535},
		{[]byte{}, 65535},
		{[]byte{0}, 65535},
		{[]byte{0, 0, 0}, 65535},
		{[]byte{1}, 65535 - 256},
		{[]byte{255}, 255},
		{[]byte{0, 1}, 65534},
		{[]byte{1, 0}, 65535 - 256},
		{[]byte{0x12, 0x34}, 65535 - 0x1234},
		{[]byte{0x12, 0x34, 0x56}, 65535 - 0x6834},
		{[]byte{0x12, 0x34, 0x56, 0x78}, 65535 - 0x68ac},
		{[]byte{255, 255}, 0},
		{[]byte{255, 255, 0, 1}, 65534},
		{[]byte{255, 255, 255, 255}, 0},
		{[]byte{255, 254, 0, 1}, 0},
		{[]byte{128, 0, 128, 0}, 65534},
		{[]byte{128, 0, 128}, 65534},
	} {
		if got := Inet(c.b); got != c.want {
			t.Errorf("Inet(%v) is %d, not %d", c.b, got, c.want)
		}
	}
}

func TestInetOfMany(t *testing.T) {
	for _, b := range samples() {
		if got, want := Inet(b), inet(b); got != want {
			t.Errorf("Inet of %d bytes is %d, not %d", len(b), got, want)
		}
	}
}

// Adding the carries in may carry once more.
func TestInetCarriesTwice(t *testing.T) {
	b := append(bytes.Repeat([]byte{255, 255}, 0xffff), 255, 255, 0, 1)
	if got := Inet(b); got != 65534 {
		t.Errorf("Inet is %d, not 65534", got)
	}
	b = []byte{255, 255, 255, 255, 0, 1}
	if got := Inet(b); got != 65534 {
		t.Errorf("Inet is %d, not 65534", got)
	}
}

// 2.2

func TestGoodOfKnown(t *testing.T) {
	for _, c := range []struct {
		b    []byte
		want bool
	}{
		{nil, true},
		{[]byte{}, true},
		{[]byte{0}, true},
		{[]byte{255}, true},
		{[]byte{1}, false},
		{[]byte{254}, false},
		{[]byte{0, 255, 0}, true},
		{[]byte{1, 254}, false},      // the second sum is 1
		{[]byte{1, 253}, false},      // the second sum is 0, the first is not
		{[]byte{1, 253, 1}, true},    // 255 and 3 + 506 + 1
		{[]byte{1, 1, 253}, false},   // 255 and 3 + 2 + 253
		{[]byte{2, 251, 2}, true},    // 255 and 6 + 502 + 2
		{[]byte{1, 253, 1, 0}, true}, // both stay 0 behind noughts
	} {
		if got := Good(c.b); got != c.want {
			t.Errorf("Good(%v) is %v", c.b, got)
		}
	}
}

func TestGoodOfMany(t *testing.T) {
	for _, b := range samples() {
		c, d := both(b)
		if Good(b) != (c == 0 && d == 0) {
			t.Errorf("Good of %d bytes is %v, but the sums are %d and %d", len(b), Good(b), c, d)
		}
	}
}

func TestPairOfKnown(t *testing.T) {
	for _, c := range []struct {
		b        []byte
		at, want int
	}{
		{[]byte{0, 0}, 0, 0xffff},
		{[]byte{255, 255}, 0, 0xffff},
		{[]byte{255, 0, 0}, 1, 0xffff},
		{[]byte{7, 9}, 0, 0xffff},
		{[]byte{1, 0, 0}, 1, 253<<8 + 1},
		{[]byte{1, 9, 7}, 1, 253<<8 + 1},
		{[]byte{1, 255, 255}, 1, 253<<8 + 1},
		{[]byte{0, 0, 1}, 0, 1<<8 + 253},
		{[]byte{1, 0, 0, 0}, 1, 253<<8 + 1},
		{[]byte{1, 0, 0, 0}, 2, 252<<8 + 2},
	} {
		if got := Pair(c.b, c.at); got != c.want {
			t.Errorf("Pair(%v, %d) is %#x, not %#x", c.b, c.at, got, c.want)
		}
	}
}

// There is one pair only: no other two from 1 to 255 make both sums 0.
func TestPairIsTheOnlyOne(t *testing.T) {
	for n := 2; n < 9; n++ {
		for at := range n - 1 {
			b := some(n, uint32(n*at))
			got := Pair(b, at)
			for p := range 1 << 16 {
				if p>>8 == 0 || p&255 == 0 {
					continue
				}
				c, d := both(with(b, at, p))
				if (c == 0 && d == 0) != (p == got) {
					t.Fatalf("Pair of %v at %d is %#x; what of %#x?", b, at, got, p)
				}
			}
		}
	}
}

// What stands at the two places does not count.
func TestPairDoesNotLookAtItsPlaces(t *testing.T) {
	for _, b := range samples() {
		for _, at := range places(b) {
			want := Pair(b, at)
			for _, p := range []int{0, 1, 255, 256, 0xff00, 0xffff, 0xfefe, 0x1234, want} {
				if got := Pair(with(b, at, p), at); got != want {
					t.Fatalf("%d bytes at %d: %#x, and with %#x there %#x", len(b), at, want, p, got)
				}
			}
		}
	}
}

func TestPairWithoutPlaces(t *testing.T) {
	for _, n := range []int{0, 1, 2, 3, 4, 9, 300} {
		b := some(n, 5)
		for _, at := range []int{-1, -2, -n, 1 - n, -255, math.MinInt, n - 1, n, n + 1, n + 255, 1 << 31, 1 << 32, 1 << 62, math.MaxInt} {
			if 0 <= at && at <= n-2 {
				continue
			}
			if got := Pair(b, at); got != 0 {
				t.Errorf("Pair of %d bytes at %d is %#x", n, at, got)
			}
		}
	}
	if Pair(nil, 0) != 0 || Pair([]byte{1}, 0) != 0 {
		t.Error("Pair finds places in too few bytes")
	}
}

// 2.3

func TestPairMakesGood(t *testing.T) {
	for _, b := range samples() {
		for _, at := range places(b) {
			p := Pair(b, at)
			if p>>8 < 1 || p>>8 > 255 || p&255 == 0 {
				t.Fatalf("Pair of %d bytes at %d is %#x", len(b), at, p)
			}
			if !Good(with(b, at, p)) {
				t.Fatalf("%d bytes with %#x at %d are not good", len(b), p, at)
			}
		}
	}
}

func TestOneByteTurnedIsNotGood(t *testing.T) {
	for _, n := range []int{2, 3, 4, 5, 20, 255, 256, 257, 300} {
		for _, at := range []int{0, n / 2, n - 2} {
			if at > n-2 {
				continue
			}
			b := some(n, uint32(n+at))
			b[0], b[n-1] = 0, 255
			b = with(b, at, Pair(b, at))
			for i := range b {
				turnEachWay(t, b, i)
			}
		}
	}
}

// turnEachWay turns the byte at i by 1 to 254; between 0 and 255 is no change
// that the sums see.
func turnEachWay(t *testing.T, b []byte, i int) {
	t.Helper()
	was := b[i]
	defer func() { b[i] = was }()
	for by := 1; by < 255; by++ {
		b[i] = was + byte(by)
		ends := was == 255 && b[i] == 0 || was == 0 && b[i] == 255
		if Good(b) != ends {
			t.Fatalf("%d bytes, the one at %d turned from %d to %d: Good is %v", len(b), i, was, b[i], Good(b))
		}
	}
}

// R1, R3

func TestBytesStayAsTheyWere(t *testing.T) {
	for _, b := range samples() {
		was := bytes.Clone(b)
		Inet(b)
		Good(b)
		for _, at := range places(b) {
			Pair(b, at)
		}
		if !bytes.Equal(b, was) {
			t.Fatalf("%d bytes were changed", len(b))
		}
	}
}

// What stands behind a list's end, in the memory it has spare, does not count.
func TestSpareMemoryDoesNotCount(t *testing.T) {
	for _, whole := range samples() {
		for n := range min(len(whole), 9) {
			b, alone := whole[:n], bytes.Clone(whole[:n])
			if Inet(b) != Inet(alone) || Good(b) != Good(alone) || Pair(b, n-1) != 0 || Pair(b, 0) != Pair(alone, 0) {
				t.Fatalf("%d of %d bytes tell something else than alone", n, len(whole))
			}
		}
	}
}
