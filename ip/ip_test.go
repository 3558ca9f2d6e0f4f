package ip

import (
	"bytes"
	"encoding/binary"
	"errors"
	"math"
	"testing"

	"plenum/api"
	"plenum/wrap"
)

// some is n bytes of everywhere, always the same for one seed.
func some(n int, seed uint32) []byte {
	b := make([]byte, n)
	for i := range b {
		seed = seed*1664525 + 1013904223
		b[i] = byte(seed >> 24)
	}
	return b
}

// checksum is 65535 less the ones' sum of the head's ten words but the sixth,
// reckoned word by word.
func checksum(head []byte) uint16 {
	total := uint16(0)
	for i := 0; i < 20; i += 2 {
		if i == 10 {
			continue
		}
		w := binary.BigEndian.Uint16(head[i:])
		total += w
		if total < w {
			total++
		}
	}
	return 65535 - total
}

// laid is the bytes of a right datagram, laid place by place by the words of 3.1.
func laid(d api.Datagram) []byte {
	b := make([]byte, 20)
	b[0] = 0x45
	binary.BigEndian.PutUint16(b[2:], uint16(20+len(d.Data)))
	b[8] = byte(d.Ttl)
	b[9] = byte(d.Proto)
	binary.BigEndian.PutUint32(b[12:], uint32(d.Src))
	binary.BigEndian.PutUint32(b[16:], uint32(d.Dst))
	binary.BigEndian.PutUint16(b[10:], checksum(b))
	return append(b, d.Data...)
}

// summed is b with the sum of what stands there.
func summed(b []byte) []byte {
	b = bytes.Clone(b)
	binary.BigEndian.PutUint16(b[10:], checksum(b))
	return b
}

func same(a, b api.Datagram) bool {
	return a.Ttl == b.Ttl && a.Proto == b.Proto && a.Src == b.Src && a.Dst == b.Dst && bytes.Equal(a.Data, b.Data)
}

// rights are right datagrams: ordinary ones, and each field at its ends.
func rights() []api.Datagram {
	all := []api.Datagram{
		{},
		{Data: []byte{}},
		{Ttl: 64, Proto: api.ProtoData, Src: 0x0a000001, Dst: 0xe0010203, Data: []byte("hello")},
		{Ttl: 1, Proto: api.ProtoOspf, Src: 0x0a000002, Dst: api.AllRouters, Data: some(200, 1)},
		{Ttl: 255},
		{Proto: 255},
		{Src: 1<<32 - 1},
		{Dst: 1<<32 - 1},
		{Src: 1 << 31},
		{Dst: 1 << 31},
		{Src: 0x01020304, Dst: 0x05060708},
		{Data: make([]byte, api.MaxData)},
		{Ttl: 255, Proto: 255, Src: 1<<32 - 1, Dst: 1<<32 - 1, Data: bytes.Repeat([]byte{255}, api.MaxData)},
	}
	for _, n := range []int{1, 2, 3, 19, 20, 21, 235, 236, 237, 255, 256, 257, 1003, 1004, 1023, 1024} {
		s := some(10, uint32(n))
		all = append(all, api.Datagram{
			Ttl:   int(s[0]),
			Proto: int(s[1]),
			Src:   int(binary.BigEndian.Uint32(s[2:])),
			Dst:   int(binary.BigEndian.Uint32(s[6:])),
			Data:  some(n, uint32(n)),
		})
	}
	return all
}

// 3.1

func TestPutKnown(t *testing.T) {
	for _, c := range []struct {
		d    api.Datagram
		want []byte
	}{
		{api.Datagram{}, []byte{0x45, 0, 0, 20, 0, 0, 0, 0, 0, 0, 0xba, 0xeb, 0, 0, 0, 0, 0, 0, 0, 0}},
		{
			api.Datagram{Ttl: 1, Proto: 2, Src: 0x0a000001, Dst: 0xe0000001, Data: []byte{7, 8, 9}},
			[]byte{0x45, 0, 0, 23, 0, 0, 0, 0, 1, 2, 0xcf, 0xe3, 10, 0, 0, 1, 224, 0, 0, 1, 7, 8, 9},
		},
		{ // the words add up to 65535, so the sum is 0
			api.Datagram{Dst: 0xbaeb},
			[]byte{0x45, 0, 0, 20, 0, 0, 0, 0, 0, 0, 0, 0, 0, 0, 0, 0, 0, 0, 0xba, 0xeb},
		},
	} {
		if b, e := Put(c.d); e != api.OK || !bytes.Equal(b, c.want) {
			t.Errorf("Put(%v) is %v, %d, not %v", c.d, b, e, c.want)
		}
	}
}

func TestPutOfRights(t *testing.T) {
	for i, d := range rights() {
		if b, e := Put(d); e != api.OK || !bytes.Equal(b, laid(d)) {
			t.Errorf("datagram %d: %d, % x.., not % x..", i, e, b[:min(len(b), 24)], laid(d)[:20])
		}
	}
}

// Each Ttl and each Proto is told.
func TestPutOfEachOctet(t *testing.T) {
	for n := range 256 {
		for _, d := range []api.Datagram{{Ttl: n}, {Proto: n}, {Ttl: n, Proto: 255 - n}} {
			if b, e := Put(d); e != api.OK || !bytes.Equal(b, laid(d)) {
				t.Errorf("Put(%v) is %v, %d", d, b, e)
			}
		}
	}
}

func TestPutOfWrong(t *testing.T) {
	long := make([]byte, api.MaxData+1)
	for _, c := range []struct {
		name string
		d    api.Datagram
		want api.Errno
	}{
		{"a Ttl below 0", api.Datagram{Ttl: -1}, api.ErrArg},
		{"a Ttl above 255", api.Datagram{Ttl: 256}, api.ErrArg},
		{"a Ttl whose low byte is right", api.Datagram{Ttl: 1<<32 + 64}, api.ErrArg},
		{"the least Ttl", api.Datagram{Ttl: math.MinInt}, api.ErrArg},
		{"the greatest Ttl", api.Datagram{Ttl: math.MaxInt}, api.ErrArg},
		{"a Proto below 0", api.Datagram{Proto: -1}, api.ErrArg},
		{"a Proto above 255", api.Datagram{Proto: 256}, api.ErrArg},
		{"the least Proto", api.Datagram{Proto: math.MinInt}, api.ErrArg},
		{"the greatest Proto", api.Datagram{Proto: math.MaxInt}, api.ErrArg},
		{"a Src below 0", api.Datagram{Src: -1}, api.ErrArg},
		{"a Src of 33 bits", api.Datagram{Src: 1 << 32}, api.ErrArg},
		{"the least Src", api.Datagram{Src: math.MinInt}, api.ErrArg},
		{"a Dst below 0", api.Datagram{Dst: -1}, api.ErrArg},
		{"a Dst of 33 bits", api.Datagram{Dst: 1 << 32}, api.ErrArg},
		{"the greatest Dst", api.Datagram{Dst: math.MaxInt}, api.ErrArg},
		{"one byte more than MaxData", api.Datagram{Data: long}, api.ErrLong},
		{"as many as two bytes cannot tell", api.Datagram{Data: make([]byte, 1<<16)}, api.ErrLong},
		{"a Ttl and too much", api.Datagram{Ttl: -1, Data: long}, api.ErrArg},
		{"a Proto and too much", api.Datagram{Proto: 256, Data: long}, api.ErrArg},
		{"a Src and too much", api.Datagram{Src: -1, Data: long}, api.ErrArg},
		{"a Dst and too much", api.Datagram{Dst: 1 << 32, Data: long}, api.ErrArg},
		{"everything", api.Datagram{Ttl: -1, Proto: -1, Src: -1, Dst: -1, Data: long}, api.ErrArg},
	} {
		if b, e := Put(c.d); e != c.want || len(b) != 0 {
			t.Errorf("%s: %d and %d bytes, not %d", c.name, e, len(b), c.want)
		}
	}
}

// 3.2

func TestGetOfRights(t *testing.T) {
	for i, d := range rights() {
		if got, e := Get(laid(d)); e != api.OK || !same(got, d) {
			t.Errorf("datagram %d: %d, and another datagram than was laid", i, e)
		}
	}
}

func TestGetOfFewer(t *testing.T) {
	whole := laid(api.Datagram{Ttl: 9, Src: 5, Data: []byte("hello")})
	for n := range len(whole) {
		want := api.ErrForm
		if n < 20 {
			want = api.ErrShort
		}
		wrongGet(t, whole[:n], want)
	}
	wrongGet(t, nil, api.ErrShort)
	wrongGet(t, []byte{}, api.ErrShort)
	wrongGet(t, bytes.Repeat([]byte{255}, 19), api.ErrShort)
}

func TestGetOfMore(t *testing.T) {
	for _, d := range []api.Datagram{{}, {Data: []byte("hello")}, {Data: make([]byte, api.MaxData)}} {
		for _, more := range []int{1, 2, 256, 1 << 16} {
			wrongGet(t, append(laid(d), make([]byte, more)...), api.ErrForm)
		}
	}
}

// Each byte of the beginning, and each of the length, counts, even where the
// sum is right.
func TestGetOfAnotherBeginning(t *testing.T) {
	b := laid(api.Datagram{Ttl: 64, Proto: 17, Src: 0x0a000001, Dst: 0xe0010203, Data: []byte("hello")})
	for i := range 8 {
		for by := 1; by < 256; by++ {
			c := bytes.Clone(b)
			c[i] += byte(by)
			wrongGet(t, c, api.ErrForm)
			wrongGet(t, summed(c), api.ErrForm)
		}
	}
}

func TestGetOfMoreThanMaxData(t *testing.T) {
	for _, n := range []int{api.MaxData + 1, api.MaxData + 2, 1<<16 - 21} {
		wrongGet(t, laid(api.Datagram{Ttl: 3, Data: make([]byte, n)}), api.ErrForm)
	}
	// The length is right in its two low bytes alone.
	wrongGet(t, laid(api.Datagram{Data: make([]byte, 1<<16)}), api.ErrForm)
	wrongGet(t, laid(api.Datagram{Data: make([]byte, 1<<16+1)}), api.ErrForm)
}

func TestGetOfAnotherSum(t *testing.T) {
	b := laid(api.Datagram{Ttl: 64, Proto: 17, Src: 0x0a000001, Dst: 0xe0010203, Data: []byte("hello")})
	for i := 8; i < 20; i++ {
		for bit := range 8 {
			c := bytes.Clone(b)
			c[i] ^= 1 << bit
			wrongGet(t, c, api.ErrSum)
		}
	}
}

// Of all sums of a head one is right: where it is 0, 65535 is not, though the
// words add up as well.
func TestGetOfEachSum(t *testing.T) {
	for _, d := range []api.Datagram{{}, {Dst: 0xbaeb}, {Ttl: 64, Proto: 17, Src: 0x0a000001, Dst: 0xe0010203}} {
		b := laid(d)
		right := binary.BigEndian.Uint16(b[10:])
		for s := range 1 << 16 {
			binary.BigEndian.PutUint16(b[10:], uint16(s))
			if uint16(s) == right {
				if got, e := Get(b); e != api.OK || !same(got, d) {
					t.Errorf("%v with its sum: %d, %v", d, e, got)
				}
				continue
			}
			wrongGet(t, b, api.ErrSum)
		}
	}
}

// The sum is the head's alone.
func TestGetDoesNotSumData(t *testing.T) {
	b := laid(api.Datagram{Ttl: 1, Data: []byte("hello")})
	b[24] = 'x'
	if d, e := Get(b); e != api.OK || string(d.Data) != "hellx" {
		t.Errorf("%d, %q", e, d.Data)
	}
}

// What is named first counts.
func TestGetOfSeveralFaults(t *testing.T) {
	b := laid(api.Datagram{Data: []byte("hello")})
	b[0], b[10] = 0x46, b[10]^1
	wrongGet(t, b, api.ErrForm)
	wrongGet(t, b[:19], api.ErrShort)
	b[0], b[3] = 0x45, 99
	wrongGet(t, b, api.ErrForm)
	long := make([]byte, 20+api.MaxData+1)
	wrongGet(t, long, api.ErrForm)
}

func wrongGet(t *testing.T, b []byte, want api.Errno) {
	t.Helper()
	d, e := Get(b)
	if e != want || d.Ttl != 0 || d.Proto != 0 || d.Src != 0 || d.Dst != 0 || len(d.Data) != 0 {
		t.Errorf("Get of %d bytes, % x..: %d, not %d, and %v", len(b), b[:min(len(b), 20)], e, want, d)
	}
}

// 3.3

func TestGetOfPut(t *testing.T) {
	for i, d := range rights() {
		b, e := Put(d)
		if e != api.OK {
			t.Fatalf("datagram %d: %d", i, e)
		}
		if got, e := Get(b); e != api.OK || !same(got, d) {
			t.Errorf("datagram %d: %d, and another datagram than was put", i, e)
		}
	}
}

// Whatever Get takes, of bytes a little off a right datagram's, Put tells so again.
func TestPutOfGet(t *testing.T) {
	taken := 0
	for _, d := range rights() {
		b := laid(d)
		for i := range b {
			for _, by := range []byte{0, 1, 128, 255} {
				c := bytes.Clone(b)
				c[i] += by
				for _, c := range [][]byte{c, summed(c)} {
					got, e := Get(c)
					if e != api.OK {
						continue
					}
					taken++
					if again, e := Put(got); e != api.OK || !bytes.Equal(again, c) {
						t.Fatalf("% x is told as % x, %d", c, again, e)
					}
				}
			}
		}
	}
	if taken == 0 {
		t.Error("Get took none")
	}
}

// R3

func TestWhatIsHandedInStays(t *testing.T) {
	for i, d := range rights() {
		data := bytes.Clone(d.Data)
		b, _ := Put(d)
		if !bytes.Equal(d.Data, data) {
			t.Errorf("datagram %d: Put changed its data", i)
		}
		was := bytes.Clone(b)
		Get(b)
		b[10] ^= 1
		Get(b)
		b[10] ^= 1
		if !bytes.Equal(b, was) {
			t.Errorf("datagram %d: Get changed its bytes", i)
		}
	}
}

// spoil writes into all of b's memory, its spare room too.
func spoil(b []byte) {
	b = b[:cap(b)]
	for i := range b {
		b[i] ^= 0xff
	}
}

func TestPutIsNewMemory(t *testing.T) {
	for i, d := range rights() {
		data := bytes.Clone(d.Data)
		one, _ := Put(d)
		two, _ := Put(d)
		spoil(one)
		if !bytes.Equal(d.Data, data) || !bytes.Equal(two, laid(d)) {
			t.Errorf("datagram %d: what Put told shares memory", i)
		}
		spoil(d.Data)
		if !bytes.Equal(two[20:], data) {
			t.Errorf("datagram %d: Put kept its data", i)
		}
	}
}

func TestGetIsNewMemory(t *testing.T) {
	for i, d := range rights() {
		// A caller's bytes behind the datagram's must not be spare room of its data.
		whole := append(laid(d), 1, 2, 3, 4)
		b := whole[:len(whole)-4]
		was := bytes.Clone(whole)
		one, _ := Get(b)
		two, _ := Get(b)
		spoil(one.Data)
		if !bytes.Equal(whole, was) || !same(two, d) {
			t.Errorf("datagram %d: what Get told shares memory", i)
		}
		spoil(whole)
		if !same(two, d) {
			t.Errorf("datagram %d: Get kept its bytes", i)
		}
	}
}

// What stands in the spare room of a list does not count.
func TestSpareRoomDoesNotCount(t *testing.T) {
	whole := laid(api.Datagram{Ttl: 5})
	if _, e := Get(whole[:19]); e != api.ErrShort {
		t.Error("Get looks behind the end:", e)
	}
	if d, e := Get(append(whole, 1, 2, 3)[:20]); e != api.OK || len(d.Data) != 0 {
		t.Error("Get looks behind the end:", e, d)
	}
	data := make([]byte, 3, api.MaxData+9)
	if b, e := Put(api.Datagram{Data: data}); e != api.OK || len(b) != 23 {
		t.Error("Put looks behind the end:", e, len(b))
	}
}

// Ways

// A fault within tells which part it is of, and is found however deep it is wrapped.
func TestFaultsAreWrapped(t *testing.T) {
	err := check(api.Datagram{Dst: -1})
	if !errors.Is(err, wrap.Fault(api.ErrArg)) || err.Error() != "dst: error 1" {
		t.Error(err)
	}
	_, err = read(make([]byte, 19))
	if !errors.Is(err, wrap.Fault(api.ErrShort)) || err.Error() != "head: error 2" {
		t.Error(err)
	}
	if e := number(wrap.Part("outer", wrap.Part("inner", wrap.Fault(api.ErrSum)))); e != api.ErrSum {
		t.Error("two deep:", e)
	}
	if e := number(nil); e != api.OK {
		t.Error("none:", e)
	}
}
