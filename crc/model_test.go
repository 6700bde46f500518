package crc_test

import (
	"bytes"
	"slices"
	"testing"
)

// modelSum is the sum, bit by bit, as the document's words tell it.
func modelSum(b []byte) uint32 {
	sum := uint32(0xffffffff)
	for _, c := range b {
		sum ^= uint32(c)
		for range 8 {
			out := sum & 1
			sum >>= 1
			if out == 1 {
				sum ^= 0xedb88320
			}
		}
	}
	return sum ^ 0xffffffff
}

// modelSeal is the model's sum, the least byte first, and b.
func modelSeal(b []byte) []byte {
	sum := modelSum(b)
	return append([]byte{byte(sum), byte(sum >> 8), byte(sum >> 16), byte(sum >> 24)}, b...)
}

// dice gives the same bytes in each run.
type dice uint64

func (d *dice) next() uint32 {
	*d = *d*6364136223846793005 + 1442695040888963407
	return uint32(*d >> 33 * 2654435761)
}

func (d *dice) bytes(n int) []byte {
	b := make([]byte, n)
	for i := range b {
		b[i] = byte(d.next() >> 24)
	}
	return b
}

// many are bytes of many lengths, and of many kinds.
func many() [][]byte {
	d := dice(1)
	list := [][]byte{nil, {}, []byte("a"), []byte("abc"), []byte("root"), []byte("123456789")}
	for n := range 300 {
		list = append(list, d.bytes(n), make([]byte, n), bytes.Repeat([]byte{255}, n))
	}
	for c := range 256 {
		list = append(list, []byte{byte(c)}, []byte{byte(c), 0}, []byte{0, 0, 0, 0, byte(c)})
	}
	return append(list, d.bytes(4096), d.bytes(65537))
}

// lent are bytes with room around them that isn't the call's to read or write, and what all of it was.
type lent struct {
	b        []byte
	all, was []byte
}

func lend(b []byte) lent {
	all := slices.Concat([]byte{71, 72, 73, 74, 75}, b, []byte{81, 82, 83, 84, 85})
	return lent{b: all[5 : 5+len(b)], all: all, was: slices.Clone(all)}
}

// takeBack sees to it that nothing was changed, and writes all over, so that an answer that shares it can be told.
func (l lent) takeBack(t *testing.T) {
	t.Helper()
	if !bytes.Equal(l.all, l.was) {
		t.Fatalf("rule 3: what was handed in was changed: %.99v is now %.99v", l.was, l.all)
	}
	for i := range l.all {
		l.all[i] ^= 0xa5
	}
}
