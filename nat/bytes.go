package nat

import "heijunka/api"

const (
	countLen = 2 // bytes that tell how many limbs there are
	limbLen  = 4 // bytes of a limb
)

// Bytes: a number as bytes.
func Bytes(a []uint32) []byte {
	a = cut(a)
	if len(a) > api.MaxLimbs {
		return nil
	}
	out := make([]byte, countLen+limbLen*len(a))
	putLeast(out[:countLen], uint32(len(a)))
	for i := range len(a) {
		at := countLen + limbLen*i
		putLeast(out[at:at+limbLen], a[i])
	}
	return out
}

// Read: the number that bytes begin with, and all behind it.
func Read(b []byte) ([]uint32, []byte, bool) {
	if len(b) < countLen {
		return nil, nil, false
	}
	n := int(getLeast(b[:countLen]))
	if n > api.MaxLimbs || len(b) < countLen+limbLen*n {
		return nil, nil, false
	}
	a := make([]uint32, n)
	for i := range n {
		at := countLen + limbLen*i
		a[i] = getLeast(b[at : at+limbLen])
	}
	if n > 0 && a[n-1] == 0 {
		return nil, nil, false
	}
	behind := b[countLen+limbLen*n:]
	rest := make([]byte, len(behind))
	copy(rest, behind)
	return a, rest, true
}

// putLeast fills out with n's bytes, the least first.
func putLeast(out []byte, n uint32) {
	for i := range len(out) {
		out[i] = byte(n >> (8 * i))
	}
}

// getLeast is the number that putLeast wrote.
func getLeast(b []byte) uint32 {
	var n uint32
	for i := range len(b) {
		n |= uint32(b[i]) << (8 * i)
	}
	return n
}
