package addr

import (
	"math"
	"strconv"
	"strings"
	"testing"

	"plenum/api"
)

// beyond are numbers that are no addresses, at both ends.
var beyond = []int{-1, -2, math.MinInt, math.MinInt + 0xe0000000, -1 << 32, -1<<32 + 0xe0000000, -0x20000000, -0x10000000, 1 << 32, 1<<32 + 1, 1<<32 + 0xe0000000, 1<<33 - 1, 1<<36 + 0xe0000000, math.MaxInt}

// sample tells addresses: the edges, and some of everywhere, always the same.
func sample() []int {
	as := []int{0, 1, 9, 10, 99, 100, 127, 128, 255, 256, 0x7fffffff, 0x80000000, 0xc0a80102, 0xdfffffff, 0xe0000000, 0xe0000001, api.AllRouters, 0xefffffff, 0xf0000000, 0xfffffffe, 0xffffffff}
	for bit := range 32 {
		as = append(as, 1<<bit, 1<<bit^0xffffffff)
	}
	next := uint32(1)
	for range 200 {
		next = next*1664525 + 1013904223
		as = append(as, int(next))
	}
	return as
}

// ones writes a mask bit by bit, by another way than the package.
func ones(bits int) int {
	mask, err := strconv.ParseInt(strings.Repeat("1", bits)+strings.Repeat("0", 32-bits), 2, 64)
	if err != nil {
		panic(err)
	}
	return int(mask)
}

// 1.1

func TestRight(t *testing.T) {
	for _, a := range sample() {
		if !Right(a) {
			t.Errorf("Right(%#x) is false", a)
		}
	}
	for _, a := range beyond {
		if Right(a) {
			t.Errorf("Right(%d) is true", a)
		}
	}
}

func TestMulti(t *testing.T) {
	for _, a := range sample() {
		want := 0xe0000000 <= a && a <= 0xefffffff
		if Multi(a) != want {
			t.Errorf("Multi(%#x) is not %v", a, want)
		}
	}
	for _, a := range beyond {
		if Multi(a) {
			t.Errorf("Multi(%d) is true", a)
		}
	}
}

func TestMask(t *testing.T) {
	for bits := range 33 {
		if got := Mask(bits); got != ones(bits) {
			t.Errorf("Mask(%d) = %#x", bits, got)
		}
	}
	for _, bits := range []int{-1, -32, -33, -64, math.MinInt} {
		if got := Mask(bits); got != 0 {
			t.Errorf("Mask(%d) = %#x", bits, got)
		}
	}
	for _, bits := range []int{33, 63, 64, 65, 1 << 32, math.MaxInt} {
		if got := Mask(bits); got != 0xffffffff {
			t.Errorf("Mask(%d) = %#x", bits, got)
		}
	}
}

func TestNet(t *testing.T) {
	cases := []struct{ a, bits, want int }{
		{0xc0a80102, 24, 0xc0a80100},
		{0xc0a80102, 31, 0xc0a80102},
		{0xc0a80103, 31, 0xc0a80102},
		{0xc0a80102, 1, 0x80000000},
		{0xc0a80102, 0, 0},
		{0xc0a80102, -1, 0},
		{0xc0a80102, math.MinInt, 0},
		{0xc0a80102, 32, 0xc0a80102},
		{0xc0a80102, 33, 0xc0a80102},
		{0xc0a80102, math.MaxInt, 0xc0a80102},
		{-1, 32, 0xffffffff},
		{-1, 8, 0xff000000},
		{-2, 40, 0xfffffffe},
		{math.MinInt, 32, 0},
		{math.MaxInt, 16, 0xffff0000},
		{1 << 32, 32, 0},
		{1<<32 + 0x0a000001, 8, 0x0a000000},
	}
	for _, c := range cases {
		if got := Net(c.a, c.bits); got != c.want {
			t.Errorf("Net(%#x, %d) = %#x, not %#x", c.a, c.bits, got, c.want)
		}
	}
	for _, a := range sample() {
		for bits := range 33 {
			if got := Net(a, bits); got != a>>(32-bits)<<(32-bits) {
				t.Errorf("Net(%#x, %d) = %#x", a, bits, got)
			}
		}
	}
}

func TestIn(t *testing.T) {
	cases := []struct {
		a, prefix, bits int
		want            bool
	}{
		{0x0a000105, 0x0a000100, 24, true},
		{0x0a000105, 0x0a0001ff, 24, true}, // a prefix may have more than its bits
		{0x0a000205, 0x0a000100, 24, false},
		{0x0a000205, 0x0a000100, 22, true},
		{0x0a000105, 0x0a000105, 32, true},
		{0x0a000104, 0x0a000105, 32, false},
		{0x0a000104, 0x0a000105, 31, true},
		{0, 0xffffffff, 0, true},
		{0, 0xffffffff, 1, false},
		{5, 5, -1, false},
		{5, 5, math.MinInt, false},
		{5, 5, 33, false},
		{5, 5, math.MaxInt, false},
	}
	for _, c := range cases {
		if In(c.a, c.prefix, c.bits) != c.want {
			t.Errorf("In(%#x, %#x, %d) is not %v", c.a, c.prefix, c.bits, c.want)
		}
	}
}

func TestInOfNoAddress(t *testing.T) {
	for _, wrong := range beyond {
		for bits := range 33 {
			low := wrong & 0xffffffff
			if In(wrong, low, bits) || In(low, wrong, bits) || In(wrong, wrong, bits) {
				t.Errorf("In with %d and %d bits is true", wrong, bits)
			}
		}
	}
}

func TestBits(t *testing.T) {
	for bits := range 33 {
		if got := Bits(ones(bits)); got != bits {
			t.Errorf("Bits(%#x) = %d", ones(bits), got)
		}
	}
	no := append([]int{1, 0xff, 0x7fffffff, 0x7f000000, 0xff00ff00, 0xfffffffd, 0xbfffffff, 0x40000000, 1<<32 + 0xff000000, -0x100, -1 << 31}, beyond...)
	for _, mask := range no {
		if got := Bits(mask); got != -1 {
			t.Errorf("Bits(%#x) = %d", mask, got)
		}
	}
}

// 1.2

func TestText(t *testing.T) {
	cases := []struct {
		a    int
		want string
	}{
		{0, "0.0.0.0"},
		{api.AllRouters, "224.0.0.5"},
		{0x0a0b0c0d, "10.11.12.13"},
		{0x01096364, "1.9.99.100"},
		{0xff000000, "255.0.0.0"},
		{0xffffffff, "255.255.255.255"},
		{-1, "255.255.255.255"},
		{-256, "255.255.255.0"},
		{math.MinInt, "0.0.0.0"},
		{math.MaxInt, "255.255.255.255"},
		{1 << 32, "0.0.0.0"},
		{1<<32 + 0x0a000001, "10.0.0.1"},
	}
	for _, c := range cases {
		if got := Text(c.a); got != c.want {
			t.Errorf("Text(%#x) = %q, not %q", c.a, got, c.want)
		}
	}
}

func TestRead(t *testing.T) {
	cases := []struct {
		s    string
		want int
	}{
		{"0.0.0.0", 0},
		{"0.0.0.1", 1},
		{"224.0.0.5", api.AllRouters},
		{"10.11.12.13", 0x0a0b0c0d},
		{"1.9.99.100", 0x01096364},
		{"255.255.255.255", 0xffffffff},
	}
	for _, c := range cases {
		if a, e := Read(c.s); a != c.want || e != api.OK {
			t.Errorf("Read(%q) = %#x, %d", c.s, a, e)
		}
	}
}

func TestReadOfNoAddress(t *testing.T) {
	texts := []string{
		"", " ", ".", "...", "....", "1", "1.2", "1.2.3", "1.2.3.", ".1.2.3", "1..2.3", "1.2.3.4.", ".1.2.3.4", "1.2.3.4.5", "0.1.2.3.4", "0.0.0.0.0",
		"1.2.3.256", "256.0.0.0", "0.256.0.0", "1.2.3.300", "999.9.9.9", "1.2.3.4294967296", "0.0.0.4294967295", "16909060",
		"01.2.3.4", "1.2.3.04", "1.2.3.00", "00.0.0.0", "1.2.3.004", "000.000.000.000",
		"1.2.3.-4", "-1.2.3.4", "1.2.3.+4", "+1.2.3.4", "1.2.3.-0", "-1.-1.-1.-1",
		" 1.2.3.4", "1.2.3.4 ", "1. 2.3.4", "1.2.3.4\n", "\t1.2.3.4", "1.2.3.4\x00", "\x001.2.3.4",
		"1,2,3,4", "1:2:3:4", "1,2.3.4", "a.b.c.d", "1.2.3.a", "1.2.3.0x4", "1.2.3.1_0", "1.2.3.1e1", "1.2.3.4/8",
		"1.2.3.\u0664", "\uff11.2.3.4", "1\u30022.3.4", "1.2.3.\xff",
		"1.2.3.99999999999999999999", "0.0.0.18446744073709551616",
		"255.255.255.2550", "0255.255.255.255", "255.255.255.255.255",
		strings.Repeat("1.", 1<<16), strings.Repeat("1", 1<<16), strings.Repeat(".", 1<<20),
	}
	for _, s := range texts {
		if a, e := Read(s); a != 0 || e != api.ErrForm {
			t.Errorf("Read(%.40q) = %#x, %d", s, a, e)
		}
	}
}

// Whatever is read must be told alike: one byte more, less or other is another address or none.
func TestReadIsStrict(t *testing.T) {
	for _, s := range []string{"224.0.0.5", "10.1.20.255"} {
		for at := range len(s) + 1 {
			for b := range 256 {
				texts := []string{s[:at] + string([]byte{byte(b)}) + s[at:]}
				if at < len(s) {
					texts = append(texts, s[:at]+s[at+1:], s[:at]+string([]byte{byte(b)})+s[at+1:])
				}
				for _, other := range texts {
					a, e := Read(other)
					if e == api.OK && Text(a) != other || e != api.OK && (a != 0 || e != api.ErrForm) {
						t.Errorf("Read(%q) = %#x, %d", other, a, e)
					}
				}
			}
		}
	}
}

// 1.3

func TestReadOfText(t *testing.T) {
	for _, a := range sample() {
		if got, e := Read(Text(a)); got != a || e != api.OK {
			t.Errorf("Read(Text(%#x)) = %#x, %d", a, got, e)
		}
	}
	for _, a := range beyond {
		if got, e := Read(Text(a)); got != a&0xffffffff || e != api.OK {
			t.Errorf("Read(Text(%d)) = %#x, %d", a, got, e)
		}
	}
}

func TestInOfShorterPrefix(t *testing.T) {
	for _, prefix := range sample() {
		for long := range 33 {
			// The last one in the net, and the neighbor just outside of it.
			in := prefix | 0xffffffff>>long
			for short := range long + 1 {
				if !In(in, prefix, short) {
					t.Errorf("In(%#x, %#x, %d) is false, though it is In %d", in, prefix, short, long)
				}
			}
			if long == 0 {
				continue
			}
			out := prefix ^ 1<<(32-long)
			if In(out, prefix, long) || !In(out, prefix, long-1) {
				t.Errorf("In(%#x, %#x) does not end at %d", out, prefix, long)
			}
		}
	}
}
