package nat_test

import (
	"math/big"
	"slices"
	"testing"

	"heijunka/nat"
)

// top is the greatest limb.
const top = 1<<32 - 1

// bigOf is the plain model's number of a.
func bigOf(a []uint32) *big.Int {
	b := make([]byte, 4*len(a))
	for i, limb := range a {
		for k := range 4 {
			b[len(b)-1-4*i-k] = byte(limb >> (8 * k))
		}
	}
	return new(big.Int).SetBytes(b)
}

// limbsOf is the plain model's number, trimmed.
func limbsOf(x *big.Int) []uint32 {
	b := x.Bytes()
	a := make([]uint32, (len(b)+3)/4)
	for i := range b {
		a[i/4] |= uint32(b[len(b)-1-i]) << (8 * (i % 4))
	}
	return a
}

// dice gives the same numbers in each run.
type dice uint64

func (d *dice) next() uint32 {
	*d = *d*6364136223846793005 + 1442695040888963407
	return uint32(*d >> 33 * 2654435761)
}

// row is n limbs, among them more of those at which carries go wrong than chance gives.
func (d *dice) row(n int) []uint32 {
	edges := []uint32{0, 1, 1<<31 - 1, 1 << 31, 1<<31 + 1, top - 1, top}
	a := make([]uint32, n)
	for i := range a {
		a[i] = d.next()
		if d.next()%2 == 0 {
			a[i] = edges[int(d.next()%uint32(len(edges)))]
		}
	}
	return a
}

// rows are numbers short and long, trimmed and not.
func rows() [][]uint32 {
	list := [][]uint32{
		nil, {0}, {0, 0, 0}, {1}, {1, 0}, {2}, {7}, {10}, {top}, {1 << 31}, {999999999}, {1000000000},
		{0, 1}, {top, top}, {0, 1 << 31}, {1, 1}, {0, 1, 0}, {5, 7, 0, 0},
		{0, 0, 1}, {top, top, top}, {0, top, top}, {top, 0, top}, {1, 0, 1}, {0, 0, 0, 1}, {top, top, top, top, top},
	}
	d := dice(1)
	for n := range 14 {
		for range 3 {
			list = append(list, d.row(n+1))
		}
	}
	return append(list, d.row(40), d.row(100), append(d.row(9), 0, 0))
}

// held is a row with room behind it that isn't the call's to write to, and what all of it was.
type held struct {
	all, was []uint32
	n        int
}

func hold(a []uint32) held {
	all := append(slices.Clone(a), 77, 78, 79)
	return held{all, slices.Clone(all), len(a)}
}

func (h held) row() []uint32 { return h.all[:h.n] }

func (h held) check(t *testing.T, what string) {
	t.Helper()
	if !slices.Equal(h.all, h.was) {
		t.Fatalf("%v changed what was handed in: %v is now %v", what, h.was, h.all)
	}
}

func wantRow(t *testing.T, promise string, got, want, a, b []uint32) {
	t.Helper()
	if !slices.Equal(got, want) {
		t.Fatalf("%v of %v and %v: %v, not %v", promise, a, b, got, want)
	}
}

// checkPair holds every call of two numbers against the plain model.
func checkPair(t *testing.T, a, b []uint32) {
	t.Helper()
	ha, hb := hold(a), hold(b)
	x, y := bigOf(a), bigOf(b)
	if got := nat.Cmp(ha.row(), hb.row()); got != x.Cmp(y) {
		t.Fatalf("P1.1: Cmp of %v and %v: %v", a, b, got)
	}
	wantRow(t, "P1.1: Add", nat.Add(ha.row(), hb.row()), limbsOf(new(big.Int).Add(x, y)), a, b)
	wantRow(t, "P1.1: Mul", nat.Mul(ha.row(), hb.row()), limbsOf(new(big.Int).Mul(x, y)), a, b)
	wantRow(t, "P1.1: Gcd", nat.Gcd(ha.row(), hb.row()), limbsOf(new(big.Int).GCD(nil, nil, x, y)), a, b)
	checkSub(t, ha.row(), hb.row(), x, y)
	checkDiv(t, ha.row(), hb.row(), x, y)
	ha.check(t, "a call")
	hb.check(t, "a call")
}

func checkSub(t *testing.T, a, b []uint32, x, y *big.Int) {
	t.Helper()
	want, wantOk := []uint32(nil), x.Cmp(y) >= 0
	if wantOk {
		want = limbsOf(new(big.Int).Sub(x, y))
	}
	got, ok := nat.Sub(a, b)
	if ok != wantOk {
		t.Fatalf("P1.1: Sub of %v and %v: %v", a, b, ok)
	}
	wantRow(t, "P1.1: Sub", got, want, a, b)
}

func checkDiv(t *testing.T, a, b []uint32, x, y *big.Int) {
	t.Helper()
	var wantQ, wantR []uint32
	if y.Sign() != 0 {
		q, r := new(big.Int).QuoRem(x, y, new(big.Int))
		wantQ, wantR = limbsOf(q), limbsOf(r)
	}
	q, r, ok := nat.Div(a, b)
	if ok != (y.Sign() != 0) {
		t.Fatalf("P1.1: Div of %v and %v: %v", a, b, ok)
	}
	wantRow(t, "P1.1: Div's quotient", q, wantQ, a, b)
	wantRow(t, "P1.1: Div's rest", r, wantR, a, b)
}
