// Package wire: numbers as bytes, the high one first, as all that goes over a net has them, and lists of them.
package wire

// Append appends n's low size bytes to b.
func Append(b []byte, n, size int) []byte {
	for shift := 8 * (size - 1); shift >= 0; shift -= 8 {
		b = append(b, byte(n>>shift))
	}
	return b
}

// Number is the number that those bytes, at most seven, tell.
func Number(b []byte) int {
	n := 0
	for _, v := range b {
		n = n<<8 | int(v)
	}
	return n
}

// List reads as many things of that size, above 0, as stand whole in b.
func List[T any](b []byte, size int, read func([]byte) T) []T {
	var list []T
	for ; len(b) >= size; b = b[size:] {
		list = append(list, read(b[:size]))
	}
	return list
}
