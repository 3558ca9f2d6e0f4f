package igmp

import (
	"bytes"
	"encoding/binary"
	"math"
	"testing"

	"plenum/api"
)

// first is the first byte of a Kind, as 4.1 says it.
func first(kind int) byte {
	return []byte{api.Query: 0x11, api.ReportV1: 0x12, api.Report: 0x16, api.Leave: 0x17}[kind]
}

// groups are addresses of groups, the least and the greatest among them.
func groups() []int {
	return []int{0xe0000000, 0xe0000001, 0xe0010203, 0xe7fffffe, 0xe8000000, 0xefffffff}
}

// strangers are addresses of no group, and numbers that are no address.
func strangers() []int {
	return []int{
		1, 0x0a000001, 0x7fffffff, 0x80000000, 0xdfffffff, 0xf0000000, 0xffffffff,
		-1, -0x20000000, 1 << 32, 1<<32 + 0xe0010203, -1<<32 + 0xe0010203, math.MinInt, math.MaxInt,
	}
}

// badTimes are those that not even a Query may have.
func badTimes() []int {
	return []int{-1, 256, -256, 1<<32 + 8, -1 << 32, math.MinInt, math.MaxInt}
}

// others are the Kinds that are no Query.
func others() []int {
	return []int{api.ReportV1, api.Report, api.Leave}
}

// checksum is 65535 less the ones' sum of the words but the second, reckoned
// word by word.
func checksum(b []byte) uint16 {
	total := uint16(0)
	for _, i := range []int{0, 4, 6} {
		w := binary.BigEndian.Uint16(b[i:])
		total += w
		if total < w {
			total++
		}
	}
	return 65535 - total
}

// laid is eight bytes of these with a right sum, laid place by place.
func laid(first, time byte, group uint32) []byte {
	b := make([]byte, 8)
	b[0], b[1] = first, time
	binary.BigEndian.PutUint32(b[4:], group)
	binary.BigEndian.PutUint16(b[2:], checksum(b))
	return b
}

func laidOf(m api.Message) []byte {
	return laid(first(m.Kind), byte(m.Time), uint32(m.Group))
}

// nought is a message whose other words add up to 65535, so that its sum is 0.
var nought = api.Message{Kind: api.Query, Time: 8, Group: 0xe0000ef7}

// rights are messages of each Kind with what each may have.
func rights() []api.Message {
	all := []api.Message{nought}
	for _, g := range groups() {
		for _, k := range others() {
			all = append(all, api.Message{Kind: k, Group: g})
		}
	}
	for _, g := range append(groups(), 0) {
		for time := range 256 {
			all = append(all, api.Message{Kind: api.Query, Time: time, Group: g})
		}
	}
	return all
}

// 4.1

func TestPutKnown(t *testing.T) {
	for _, c := range []struct {
		m    api.Message
		want []byte
	}{
		{api.Message{Kind: api.Query, Time: 8}, []byte{0x11, 8, 0xee, 0xf7, 0, 0, 0, 0}},
		{api.Message{Kind: api.Query}, []byte{0x11, 0, 0xee, 0xff, 0, 0, 0, 0}},
		{api.Message{Kind: api.Query, Time: 2, Group: 0xe0010203}, []byte{0x11, 2, 0x0c, 0xf9, 224, 1, 2, 3}},
		{api.Message{Kind: api.ReportV1, Group: 0xe0010203}, []byte{0x12, 0, 0x0b, 0xfb, 224, 1, 2, 3}},
		{api.Message{Kind: api.Report, Group: 0xe0010203}, []byte{0x16, 0, 0x07, 0xfb, 224, 1, 2, 3}},
		{api.Message{Kind: api.Leave, Group: 0xe0010203}, []byte{0x17, 0, 0x06, 0xfb, 224, 1, 2, 3}},
		{nought, []byte{0x11, 8, 0, 0, 224, 0, 0x0e, 0xf7}},
	} {
		if b, e := Put(c.m); e != api.OK || !bytes.Equal(b, c.want) {
			t.Errorf("Put(%v) is % x, %d, not % x", c.m, b, e, c.want)
		}
	}
}

func TestPutOfRights(t *testing.T) {
	for _, m := range rights() {
		if b, e := Put(m); e != api.OK || !bytes.Equal(b, laidOf(m)) {
			t.Errorf("Put(%v) is % x, %d, not % x", m, b, e, laidOf(m))
		}
	}
}

// A Kind that there is not comes ahead of whatever else is wrong.
func TestPutOfNoKind(t *testing.T) {
	for _, k := range []int{0, api.Leave + 1, -1, 0x11, 0x16, 1<<32 + api.Query, math.MinInt, math.MaxInt} {
		for _, time := range []int{0, 8, -1, 256} {
			for _, g := range []int{0xe0010203, 0, 1, -1} {
				wrongPut(t, api.Message{Kind: k, Time: time, Group: g}, api.ErrKind)
			}
		}
	}
}

func TestPutOfWrongTimes(t *testing.T) {
	for _, time := range badTimes() {
		for _, g := range []int{0, 0xe0010203} {
			wrongPut(t, api.Message{Kind: api.Query, Time: time, Group: g}, api.ErrArg)
		}
	}
	for _, k := range others() {
		for _, time := range append(badTimes(), 1, 8, 128, 255) {
			wrongPut(t, api.Message{Kind: k, Time: time, Group: 0xe0010203}, api.ErrArg)
		}
	}
}

func TestPutOfWrongGroups(t *testing.T) {
	for _, g := range strangers() {
		for _, k := range append(others(), api.Query) {
			wrongPut(t, api.Message{Kind: k, Group: g}, api.ErrArg)
		}
		wrongPut(t, api.Message{Kind: api.Query, Time: 8, Group: g}, api.ErrArg)
	}
	for _, k := range others() {
		wrongPut(t, api.Message{Kind: k}, api.ErrArg)
	}
}

func TestPutOfSeveralFaults(t *testing.T) {
	for _, k := range append(others(), api.Query) {
		wrongPut(t, api.Message{Kind: k, Time: -1, Group: 1}, api.ErrArg)
		wrongPut(t, api.Message{Kind: k, Time: 256, Group: -1}, api.ErrArg)
	}
}

func wrongPut(t *testing.T, m api.Message, want api.Errno) {
	t.Helper()
	if b, e := Put(m); e != want || len(b) != 0 {
		t.Errorf("Put(%v) is % x, %d, not %d", m, b, e, want)
	}
}

// 4.2

func TestGetOfRights(t *testing.T) {
	for _, m := range rights() {
		if got, e := Get(laidOf(m)); e != api.OK || got != m {
			t.Errorf("Get(% x) is %v, %d, not %v", laidOf(m), got, e, m)
		}
	}
}

// How many bytes there are comes ahead of what they are.
func TestGetOfFewerAndMore(t *testing.T) {
	wrongGet(t, nil, api.ErrShort)
	wrongGet(t, []byte{}, api.ErrShort)
	many := append(laid(0x16, 0, 0xe0010203), make([]byte, 20)...)
	junk := bytes.Repeat([]byte{0x99}, 20)
	for n := range 20 {
		switch {
		case n < 8:
			wrongGet(t, many[:n], api.ErrShort)
			wrongGet(t, junk[:n], api.ErrShort)
		case n > 8:
			wrongGet(t, many[:n], api.ErrForm)
			wrongGet(t, junk[:n], api.ErrForm)
		}
	}
	wrongGet(t, make([]byte, 1<<16+8), api.ErrForm)
}

// Of all sums one is right: where it is 0, 65535 is not, though the words add
// up as well.
func TestGetOfEachSum(t *testing.T) {
	for _, m := range []api.Message{
		nought,
		{Kind: api.Query, Time: 8},
		{Kind: api.Report, Group: 0xe0010203},
		{Kind: api.Leave, Group: 0xefffffff},
	} {
		b := laidOf(m)
		right := binary.BigEndian.Uint16(b[2:])
		for s := range 1 << 16 {
			binary.BigEndian.PutUint16(b[2:], uint16(s))
			if uint16(s) == right {
				if got, e := Get(b); e != api.OK || got != m {
					t.Errorf("%v with its sum: %v, %d", m, got, e)
				}
				continue
			}
			wrongGet(t, b, api.ErrSum)
		}
	}
}

func TestGetOfTurnedBits(t *testing.T) {
	for _, m := range []api.Message{{Kind: api.Query, Time: 8}, {Kind: api.Report, Group: 0xe0010203}} {
		for i := range 8 {
			for bit := range 8 {
				b := laidOf(m)
				b[i] ^= 1 << bit
				wrongGet(t, b, api.ErrSum)
			}
		}
	}
}

// kindOf each first byte, said the other way round than the program does.
func kindOfFirst(n int) int {
	for _, k := range append(others(), api.Query) {
		if int(first(k)) == n {
			return k
		}
	}
	return 0
}

// Each first byte, each time, groups and others: the sum counts first, then
// the Kind, then the rest.
func TestGetOfEachBeginning(t *testing.T) {
	for n := range 256 {
		kind := kindOfFirst(n)
		for time := range 256 {
			for _, g := range []uint32{0, 1, 0xdfffffff, 0xe0000000, 0xefffffff, 0xf0000000, 0xffffffff} {
				multi := 0xe0000000 <= g && g < 0xf0000000
				b := laid(byte(n), byte(time), g)
				switch {
				case kind == 0:
					wrongGet(t, b, api.ErrKind)
				case kind == api.Query && !multi && g != 0, kind != api.Query && (time != 0 || !multi):
					wrongGet(t, b, api.ErrArg)
				default:
					want := api.Message{Kind: kind, Time: time, Group: int(g)}
					if m, e := Get(b); e != api.OK || m != want {
						t.Fatalf("Get(% x) is %v, %d", b, m, e)
					}
				}
				b[3] ^= 1
				wrongGet(t, b, api.ErrSum)
			}
		}
	}
}

func wrongGet(t *testing.T, b []byte, want api.Errno) {
	t.Helper()
	if m, e := Get(b); e != want || m != (api.Message{}) {
		t.Fatalf("Get of %d bytes, % x..: %v, %d, not %d", len(b), b[:min(len(b), 9)], m, e, want)
	}
}

// 4.3

func TestGetOfPut(t *testing.T) {
	for _, m := range rights() {
		b, e := Put(m)
		if e != api.OK {
			t.Fatalf("Put(%v): %d", m, e)
		}
		if got, e := Get(b); e != api.OK || got != m {
			t.Errorf("Get of Put(%v) is %v, %d", m, got, e)
		}
	}
}

// Whatever Get takes, of bytes a little off a right message's, Put tells so again.
func TestPutOfGet(t *testing.T) {
	taken := 0
	for _, m := range rights() {
		for i := range 8 {
			for _, by := range []byte{0, 1, 4, 128, 255} {
				b := laidOf(m)
				b[i] += by
				for _, b := range [][]byte{b, laid(b[0], b[1], binary.BigEndian.Uint32(b[4:]))} {
					got, e := Get(b)
					if e != api.OK {
						continue
					}
					taken++
					if again, e := Put(got); e != api.OK || !bytes.Equal(again, b) {
						t.Fatalf("% x is told as % x, %d", b, again, e)
					}
				}
			}
		}
	}
	if taken == 0 {
		t.Error("Get took none")
	}
}

// R3

func TestGetLeavesItsBytes(t *testing.T) {
	for _, b := range [][]byte{laidOf(nought), laid(0x99, 1, 2), laid(0x16, 1, 2), {1, 2, 3, 4, 5, 6, 7, 8}, {1, 2, 3}} {
		was := bytes.Clone(b)
		Get(b)
		if !bytes.Equal(b, was) {
			t.Errorf("Get changed % x to % x", was, b)
		}
	}
}

func TestPutIsNewMemory(t *testing.T) {
	for _, m := range []api.Message{nought, {Kind: api.Leave, Group: 0xe0010203}} {
		one, _ := Put(m)
		two, _ := Put(m)
		one = one[:cap(one)]
		for i := range one {
			one[i] ^= 0xff
		}
		three, _ := Put(m)
		if !bytes.Equal(two, laidOf(m)) || !bytes.Equal(three, laidOf(m)) {
			t.Errorf("what Put(%v) told shares memory", m)
		}
	}
}

// What stands in the spare room of a list does not count.
func TestSpareRoomDoesNotCount(t *testing.T) {
	b := append(laid(0x16, 0, 0xe0010203), 1, 2, 3)
	wrongGet(t, b[:7], api.ErrShort)
	if m, e := Get(b[:8]); e != api.OK || m.Kind != api.Report {
		t.Error("Get looks behind the end:", m, e)
	}
}
