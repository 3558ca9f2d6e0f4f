package wire

import (
	"bytes"
	"slices"
	"testing"
)

func TestAppendKnown(t *testing.T) {
	for _, c := range []struct {
		b       []byte
		n, size int
		want    []byte
	}{
		{nil, 0x12345678, 4, []byte{0x12, 0x34, 0x56, 0x78}},
		{[]byte{9}, 0x1234, 2, []byte{9, 0x12, 0x34}},
		{[]byte{9}, 0, 4, []byte{9, 0, 0, 0, 0}},
		{nil, 0x1234, 1, []byte{0x34}},
		{nil, 1<<32 + 5, 4, []byte{0, 0, 0, 5}},
		{nil, -1, 4, []byte{255, 255, 255, 255}},
		{nil, -2, 2, []byte{255, 254}},
		{[]byte{9}, 7, 0, []byte{9}},
		{[]byte{9}, 7, -1, []byte{9}},
	} {
		if got := Append(bytes.Clone(c.b), c.n, c.size); !bytes.Equal(got, c.want) {
			t.Errorf("Append(%v, %#x, %d) is %v, not %v", c.b, c.n, c.size, got, c.want)
		}
	}
}

func TestNumberKnown(t *testing.T) {
	for _, c := range []struct {
		b    []byte
		want int
	}{
		{nil, 0},
		{[]byte{7}, 7},
		{[]byte{0x12, 0x34}, 0x1234},
		{[]byte{0, 0, 1}, 1},
		{[]byte{255, 255, 255, 255}, 1<<32 - 1},
	} {
		if got := Number(c.b); got != c.want {
			t.Errorf("Number(%v) is %#x, not %#x", c.b, got, c.want)
		}
	}
}

func TestNumberOfAppend(t *testing.T) {
	for size := 1; size < 8; size++ {
		for n := range 8 * size {
			if got := Number(Append(nil, 1<<n, size)); got != 1<<n {
				t.Errorf("1<<%d in %d bytes comes back as %#x", n, size, got)
			}
		}
	}
}

func TestListKnown(t *testing.T) {
	for _, c := range []struct {
		b    []byte
		size int
		want []int
	}{
		{nil, 2, nil},
		{[]byte{1}, 2, nil},
		{[]byte{1, 2}, 2, []int{0x0102}},
		{[]byte{1, 2, 3}, 2, []int{0x0102}},
		{[]byte{1, 2, 3, 4}, 2, []int{0x0102, 0x0304}},
		{[]byte{1, 2, 3}, 1, []int{1, 2, 3}},
		{[]byte{0, 0, 0, 5, 255, 255, 255, 255}, 4, []int{5, 1<<32 - 1}},
	} {
		if got := List(c.b, c.size, Number); !slices.Equal(got, c.want) {
			t.Errorf("List(%v, %d) is %v, not %v", c.b, c.size, got, c.want)
		}
	}
}
