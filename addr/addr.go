// Package addr: see DOC.md, chapter 1.
package addr

import (
	"strconv"
	"strings"

	"plenum/api"
)

const (
	width   = 32                     // bits of an address
	all     = 1<<width - 1           // the greatest address
	longest = len("255.255.255.255") // no Text is longer
)

// kind is a set of the kinds that an address may be of.
type kind int

const (
	right kind = 1 << iota
	multi
)

// kinds looks at what stands above the low 28 bits: a number that is no
// address shows there too, since the shift keeps the sign and what is too high.
func kinds(a int) kind {
	var k kind
	switch first := a >> (width - 4); {
	case first == 0b1110:
		k |= multi
		fallthrough
	case 0 <= first && first <= 0b1111:
		k |= right
	}
	return k
}

// Right tells whether a is an address.
func Right(a int) bool {
	return kinds(a)&right != 0
}

// Multi tells whether a is the address of a group.
func Multi(a int) bool {
	return kinds(a)&multi != 0
}

// Mask is that many ones, from the highest bit on; bits beyond 0 or 32 count as these.
func Mask(bits int) int {
	bits = max(0, min(bits, width))
	return all &^ (all >> bits)
}

// Net is what a's low 32 bits have in common with the Mask.
func Net(a, bits int) int {
	return a & Mask(bits)
}

// In tells whether a lies in the net of that prefix.
func In(a, prefix, bits int) bool {
	if !Right(a) || !Right(prefix) || bits < 0 || bits > width {
		return false
	}
	return Net(a, bits) == Net(prefix, bits)
}

// Bits is the length whose Mask it is, or -1.
func Bits(mask int) int {
	for bits := range width + 1 {
		if Mask(bits) == mask {
			return bits
		}
	}
	return -1
}

// Text tells a's low 32 bits as four numbers with points between.
func Text(a int) string {
	var parts [4]string
	for i := range parts {
		parts[i] = strconv.Itoa(a >> (width - 8*(i+1)) & 0xff)
	}
	return strings.Join(parts[:], ".")
}

// Read is the way back from Text. It reads freely and then asks Text, so that
// the form of an address is said in one place.
func Read(s string) (int, api.Errno) {
	if len(s) > longest {
		return 0, api.ErrForm
	}
	a := 0
	for _, part := range strings.Split(s, ".") {
		n, err := strconv.Atoi(part)
		if err != nil {
			return 0, api.ErrForm
		}
		a = a<<8 | n
	}
	if Text(a) != s {
		return 0, api.ErrForm
	}
	return a, api.OK
}
