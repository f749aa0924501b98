// Package record: the records that are kept, each of them with its size and its sum.
package record

import "math/bits"

const (
	sizeBytes = 4
	sumBytes  = 4

	polynomial = 0x04C11DB7
)

// Cut gives the content of the record that s begins with, and what stands behind it, if that record is whole and its sum is right.
func Cut(s string) (content, rest string, ok bool) {
	f := fields{rest: s}
	size := f.number(sizeBytes)
	wanted := f.number(sumBytes)
	content = f.bytes(size)
	if f.short || int(sum(content)) != wanted {
		return "", "", false
	}
	return content, f.rest, true
}

// sum goes bit by bit: what is kept is short, and a table would be longer than the rule it is made by.
func sum(s string) uint32 {
	turned := bits.Reverse32(polynomial)
	state := ^uint32(0)
	for i := range len(s) {
		state ^= uint32(s[i])
		for range 8 {
			lowest := state & 1
			state = state>>1 ^ lowest*turned
		}
	}
	return ^state
}
