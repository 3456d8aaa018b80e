// Package crc is layer 1: sums of bytes, see shared/doc/01-crc.md.
package crc

// poly stands with its lowest power in the highest bit, since the register is shifted down.
const poly uint32 = 0xEDB88320

// Sum is the CRC-32 of the bytes of s.
func Sum(s string) uint32 {
	r := ^uint32(0)
	for i := range len(s) {
		r = Add(r, s[i])
	}
	return ^r
}

// Add is the register r behind the byte b; its bits are neither set first nor turned at the end, so that calls of it follow each other.
func Add(r uint32, b byte) uint32 {
	r ^= uint32(b)
	for range 8 {
		low := r & 1
		r >>= 1
		if low == 1 {
			r ^= poly
		}
	}
	return r
}

// Four is n as four bytes, the highest first.
func Four(n uint32) string {
	return string([]byte{byte(n >> 24), byte(n >> 16), byte(n >> 8), byte(n)})
}

// Value is the number whose Four s is, and whether there is one.
func Value(s string) (uint32, bool) {
	if len(s) != 4 {
		return 0, false
	}
	return uint32(s[0])<<24 | uint32(s[1])<<16 | uint32(s[2])<<8 | uint32(s[3]), true
}
