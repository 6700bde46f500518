package whole

import (
	"heijunka/api"
	"heijunka/nat"
)

// What the byte ahead says.
const (
	notBelow = 0
	below    = 1
)

// Bytes: a number as bytes.
func Bytes(a api.Int) []byte {
	size := nat.Bytes(a.Mag)
	if len(size) == 0 {
		return nil
	}
	out := make([]byte, 1+len(size))
	out[0] = notBelow
	if isBelow(a) {
		out[0] = below
	}
	copy(out[1:], size)
	return out
}

// Read: the number that bytes begin with, and all behind it.
func Read(b []byte) (api.Int, []byte, bool) {
	if len(b) == 0 || b[0] != notBelow && b[0] != below {
		return api.Int{}, nil, false
	}
	neg := b[0] == below
	isWhole := behind(neg)
	mag, rest, ok := nat.Read(b[1:])
	if !ok || !isWhole(mag) {
		return api.Int{}, nil, false
	}
	return api.Int{Neg: neg, Mag: mag}, rest, true
}
