package nat

import "math/bits"

// Gcd: the greatest divisor of both.
func Gcd(a, b []uint32) []uint32 {
	a, b = Trim(a), Trim(b)
	if Cmp(a, b) < 0 {
		a, b = b, a
	}
	for len(a) > 2 && len(b) > 0 {
		a, b = nearer(a, b)
	}
	if len(b) == 0 {
		return a
	}
	return ofWord(gcdWord(word(a), word(b)))
}

func gcdWord(a, b uint64) uint64 {
	for b != 0 {
		a, b = b, a%b
	}
	return a
}

// nearer answers two lesser numbers, the greater one first, that have the same divisors in common as a and b; a isn't below b, has three limbs at least, and both are written over.
func nearer(a, b []uint32) (x, y []uint32) {
	s := foresee(a, b)
	if s.aFromB == 0 {
		_, r, _ := Div(a, b)
		return b, r
	}
	s.take(a, b)
	return cut(a), cut(b)
}

// steps is what some divisions in a row, each divisor by the rest, make of two numbers a and b: the new a is aFromA times a and aFromB times b, of which one isn't above 0, and one not below; and likewise the new b. All are less than 2^31, so that such a sum for one limb, and what is carried, is an int64.
type steps struct {
	aFromA, aFromB int64
	bFromA, bFromB int64
}

// foresee divides as long as the 62 highest bits of a, and the bits of b at the same places, tell for certain how often: so long numbers are gone through once for many divisions. (Lehmer's way, with Collins's condition.)
func foresee(a, b []uint32) steps {
	shift := 32*len(a) - bits.LeadingZeros32(a[len(a)-1]) - 62
	x, y := window(a, shift), window(b, shift)
	s := steps{aFromA: 1, bFromB: 1}
	for y != 0 {
		k := x / y
		rest := x - k*y
		next := steps{s.bFromA, s.bFromB, s.aFromA - k*s.bFromA, s.aFromB - k*s.bFromB}
		// The bits below move rest by less than off, and y by less than its own factor: k is right where rest can't come below 0, nor up to y.
		// That keeps off below 2^31, too: off times y is at most what x was at first, less than 2^62, and off is at most half of y.
		if off := size(next.bFromB); rest < off || y-rest < off+size(next.aFromB) {
			break
		}
		x, y, s = y, rest, next
	}
	return s
}

// window is a's bits from shift on, of which there are 62 at most.
func window(a []uint32, shift int) int64 {
	i, off := shift/32, shift%32
	low := limb(a, i) | limb(a, i+1)<<32
	return int64(low>>off | limb(a, i+2)<<(64-off))
}

func size(n int64) int64 {
	if n < 0 {
		return -n
	}
	return n
}

// take writes over a, and b, that is no longer, with what the steps make of them.
func (s steps) take(a, b []uint32) {
	var x, y int64
	for i := range len(a) {
		m, n := int64(a[i]), int64(limb(b, i))
		x += s.aFromA*m + s.aFromB*n
		y += s.bFromA*m + s.bFromB*n
		a[i] = uint32(x)
		if i < len(b) { // the new b is less than the old one
			b[i] = uint32(y)
		}
		x >>= 32
		y >>= 32
	}
}
