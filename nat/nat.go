// Package nat is layer 1: numbers of any length. See shared/doc/01-nat.md.
package nat

import "math/bits"

// cut is a without the limbs 0 at its end; it shares a's memory.
func cut(a []uint32) []uint32 {
	n := len(a)
	for n > 0 && a[n-1] == 0 {
		n--
	}
	return a[:n]
}

// Trim: a number trimmed.
func Trim(a []uint32) []uint32 {
	a = cut(a)
	out := make([]uint32, len(a))
	copy(out, a)
	return out
}

// Cmp: how one stands to another one.
func Cmp(a, b []uint32) int {
	a, b = cut(a), cut(b)
	if len(a) != len(b) {
		return sign(len(a) < len(b))
	}
	for i := range len(a) {
		j := len(a) - 1 - i
		if a[j] != b[j] {
			return sign(a[j] < b[j])
		}
	}
	return 0
}

func sign(less bool) int {
	if less {
		return -1
	}
	return 1
}

// Add: the sum.
func Add(a, b []uint32) []uint32 {
	a, b = cut(a), cut(b)
	if len(a) < len(b) {
		a, b = b, a
	}
	out := make([]uint32, len(a)+1)
	copy(out, a)
	out[len(a)] = addTo(out[:len(a)], b)
	return cut(out)
}

// addTo adds b, that is no longer than a, to a, and answers what is carried out of it.
func addTo(a, b []uint32) uint32 {
	var carry uint32
	for i := range len(b) {
		a[i], carry = bits.Add32(a[i], b[i], carry)
	}
	for i := len(b); i < len(a) && carry != 0; i++ {
		a[i], carry = bits.Add32(a[i], 0, carry)
	}
	return carry
}

// Sub: the difference.
func Sub(a, b []uint32) ([]uint32, bool) {
	if Cmp(a, b) < 0 {
		return nil, false
	}
	out, b := Trim(a), cut(b)
	var borrow uint32
	for i := range len(b) {
		out[i], borrow = bits.Sub32(out[i], b[i], borrow)
	}
	for i := len(b); borrow != 0; i++ {
		out[i], borrow = bits.Sub32(out[i], 0, borrow)
	}
	return cut(out), true
}

// Mul: the product.
func Mul(a, b []uint32) []uint32 {
	a, b = cut(a), cut(b)
	if len(a) == 0 || len(b) == 0 {
		return nil
	}
	out := make([]uint32, len(a)+len(b))
	for i := range len(a) {
		out[i+len(b)] = addTimes(out[i:i+len(b)], b, a[i])
	}
	return cut(out)
}

// addTimes adds b, k times, to a, that is as long, and answers what is carried out of it.
func addTimes(a, b []uint32, k uint32) uint32 {
	var carry uint64
	for i := range len(b) {
		carry += uint64(a[i]) + uint64(b[i])*uint64(k)
		a[i] = uint32(carry)
		carry >>= 32
	}
	return uint32(carry)
}

// word is a number of two limbs at most.
func word(a []uint32) uint64 {
	return limb(a, 0) | limb(a, 1)<<32
}

// limb is a's limb i, which is 0 behind its end.
func limb(a []uint32, i int) uint64 {
	if i < len(a) {
		return uint64(a[i])
	}
	return 0
}

// ofWord is the number w.
func ofWord(w uint64) []uint32 {
	return cut([]uint32{uint32(w), uint32(w >> 32)})
}
