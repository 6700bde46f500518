package crc_test

import (
	"math/bits"
	"slices"
	"testing"

	"heijunka/crc"
)

// window is so many bits one behind the other.
const window = 32

// turn turns bit i, as sums take the bits: of each byte the lowest one first. (Within 32 bits that are counted from each byte's highest one on, some patterns come to nothing: that follows from the sum's rule, and can't be promised.)
func turn(b []byte, i int) {
	b[i/8] ^= 1 << (i % 8)
}

// turned is b with the bits turned, from one on, that a pattern has.
func turned(b []byte, from int, pattern uint32) []byte {
	out := slices.Clone(b)
	for ; pattern != 0; pattern &= pattern - 1 {
		turn(out, from+bits.TrailingZeros32(pattern))
	}
	return out
}

// rank is how many of the rows, by exclusive or, no others of them come to.
func rank(rows []uint32) int {
	led := [32]uint32{} // by its highest bit, one row each
	n := 0
	for _, row := range rows {
		for row != 0 {
			at := bits.Len32(row) - 1
			if led[at] == 0 {
				led[at] = row
				n++
				break
			}
			row ^= led[at]
		}
	}
	return n
}

// Which bits of the sum turn, hangs on the turned bits one by one (the test below); so, where no choice of a window's 32 comes to nothing, each has another sum.
func TestNoPatternWithinAWindowComesToNothing(t *testing.T) {
	d := dice(6)
	for _, b := range [][]byte{d.bytes(5), d.bytes(24), d.bytes(60), make([]byte, 64)} {
		sum := crc.Sum(b)
		for from := range 8*len(b) - window + 1 {
			var rows []uint32
			for i := range window {
				rows = append(rows, sum^crc.Sum(turned(b, from, 1<<i)))
			}
			if r := rank(rows); r != window {
				t.Errorf("P4.3: of %v bytes, from bit %v on, only %v bits count", len(b), from, r)
			}
		}
	}
}

func TestTurnedBitsCountOneByOne(t *testing.T) {
	d := dice(7)
	for range 3000 {
		b := d.bytes(4 + int(d.next()%70))
		sum := crc.Sum(b)
		from, pattern := int(d.next())%(8*len(b)-window+1), d.next()
		want := sum
		for i := range window {
			if pattern>>i&1 == 1 {
				want ^= sum ^ crc.Sum(turned(b, from, 1<<i))
			}
		}
		if got := crc.Sum(turned(b, from, pattern)); got != want {
			t.Fatalf("P4.3: Sum of %v with %#x turned from bit %v on: %#x, not %#x", b, pattern, from, got, want)
		}
	}
}

// wantAnother holds what has bits turned against what it was, by its sum, and sealed.
func wantAnother(t *testing.T, b []byte, from int, pattern uint32) {
	t.Helper()
	odd := turned(b, from, pattern)
	if crc.Sum(odd) == crc.Sum(b) {
		t.Fatalf("P4.3: %v with %#x turned from bit %v on has the same sum", b, pattern, from)
	}
	sealed := crc.Seal(b)
	if got, ok := crc.Open(append(sealed[:4:4], odd...)); ok || len(got) != 0 {
		t.Fatalf("P4.3: %v with %#x turned from bit %v on is opened: %v", b, pattern, from, got)
	}
}

func TestShortPatternsTurned(t *testing.T) {
	d := dice(8)
	b := d.bytes(9)
	for from := range 8 * len(b) {
		longest := min(9, 8*len(b)-from)
		for pattern := 1; pattern < 1<<longest; pattern += 2 { // an even one is an odd one from the next bit on
			wantAnother(t, b, from, uint32(pattern))
		}
	}
}

func TestLongPatternsTurned(t *testing.T) {
	d := dice(9)
	for range 20000 {
		b := d.bytes(4 + int(d.next()%57))
		from := int(d.next()) % (8*len(b) - window + 1)
		wantAnother(t, b, from, d.next()|1)
		wantAnother(t, b, from, 1<<31|1)
		wantAnother(t, b, from, 0xffffffff)
		wantAnother(t, b, from, 0xedb88320)
	}
}

// Of 33 bits the promise says nothing, and the sum's own rule tells a pattern that comes to nothing.
func TestThirtyThreeBitsMayComeToNothing(t *testing.T) {
	b := []byte("123456789")
	for from := range 8*len(b) - window {
		odd := turned(b, from+1, 0xedb88320) // the sum's own rule, and the bit that falls out
		turn(odd, from)
		if crc.Sum(odd) != crc.Sum(b) {
			t.Errorf("P4.1: from bit %v on: %#x, not %#x", from, crc.Sum(odd), crc.Sum(b))
		}
	}
}
