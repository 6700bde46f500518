package nat

import "math/bits"

// Div: quotient and rest.
func Div(a, b []uint32) (q, r []uint32, ok bool) {
	a, b = cut(a), cut(b)
	switch {
	case len(b) == 0:
		return nil, nil, false
	case len(a) < len(b):
		return nil, Trim(a), true
	case len(a) <= 2: // numbers are short most of the time, and one step of the machine divides these
		return ofWord(word(a) / word(b)), ofWord(word(a) % word(b)), true
	case len(b) == 1:
		q = Trim(a)
		rest := divShort(q, b[0])
		return cut(q), cut([]uint32{rest}), true
	}
	q, r = divLong(a, b)
	return q, r, true
}

// divShort makes a its quotient by d, and answers the rest.
func divShort(a []uint32, d uint32) uint32 {
	var rest uint64
	for i := range len(a) {
		j := len(a) - 1 - i
		rest = rest<<32 | uint64(a[j])
		a[j] = uint32(rest / uint64(d))
		rest %= uint64(d)
	}
	return uint32(rest)
}

// divLong divides a by b, that has two limbs at least, and no more than a, limb by limb from the top.
func divLong(a, b []uint32) (q, r []uint32) {
	// Only with the divisor's highest bit set do the highest limbs tell the quotient's limb closely.
	shift := bits.LeadingZeros32(b[len(b)-1])
	d := shiftUp(b, shift)[:len(b)]
	r = shiftUp(a, shift)
	n := len(a) - len(b) + 1
	q = make([]uint32, n)
	for i := range n {
		j := n - 1 - i
		q[j] = divStep(r[j:j+len(d)+1], d)
	}
	shiftDown(r, shift)
	return cut(q), cut(r)
}

// shiftUp is a, times 2 as often as shift (below 32) says, with one limb more.
func shiftUp(a []uint32, shift int) []uint32 {
	out := make([]uint32, len(a)+1)
	var carry uint64
	for i := range len(a) {
		carry |= uint64(a[i]) << shift
		out[i] = uint32(carry)
		carry >>= 32
	}
	out[len(a)] = uint32(carry)
	return out
}

// shiftDown takes back what shiftUp did.
func shiftDown(a []uint32, shift int) {
	for i := range len(a) {
		a[i] = uint32((uint64(a[i]) | limb(a, i+1)<<32) >> shift)
	}
}

// divStep takes d, as often as it goes, from r, that has one limb more, and answers how often.
func divStep(r, d []uint32) uint32 {
	k := guess(r, d)
	n := len(d)
	over := subTimes(r[:n], d, k)
	if r[n] >= over {
		r[n] -= over
		return k
	}
	// Too much was taken: once less is right, and what is carried meets what was missing.
	r[n] = r[n] - over + addTo(r[:n], d)
	return k - 1
}

// guess tells by the highest limbs how often d goes into r: so often, or once less.
func guess(r, d []uint32) uint32 {
	n := len(d)
	top, first, second := uint64(r[n])<<32|uint64(r[n-1]), uint64(d[n-1]), uint64(d[n-2])
	k := top / first
	rest := top % first
	for k>>32 != 0 || k*second > rest<<32|uint64(r[n-2]) {
		k--
		rest += first
		if rest>>32 != 0 { // nothing that k*second may be is more now
			break
		}
	}
	return uint32(k)
}

// subTimes takes b, k times, from a, that is as long, and answers what is missing ahead of it.
func subTimes(a, b []uint32, k uint32) uint32 {
	var carry uint64
	for i := range len(b) {
		carry += uint64(b[i]) * uint64(k)
		rest, missing := bits.Sub32(a[i], uint32(carry), 0)
		a[i] = rest
		carry = carry>>32 + uint64(missing)
	}
	return uint32(carry)
}
