package whole_test

import (
	"math/big"
	"slices"
	"testing"

	"heijunka/api"
	"heijunka/whole"
)

// top is the greatest limb.
const top = 1<<32 - 1

// bigOf is the plain model's number of a.
func bigOf(a api.Int) *big.Int {
	x := new(big.Int)
	for _, limb := range slices.Backward(a.Mag) {
		x.Lsh(x, 32)
		x.Add(x, big.NewInt(int64(limb)))
	}
	if a.Neg {
		x.Neg(x)
	}
	return x
}

// intOf is the plain model's number, plain.
func intOf(x *big.Int) api.Int {
	var mag []uint32
	size, limb := new(big.Int).Abs(x), new(big.Int)
	for size.Sign() > 0 {
		limb.And(size, big.NewInt(top))
		mag = append(mag, uint32(limb.Int64()))
		size.Rsh(size, 32)
	}
	return api.Int{Neg: x.Sign() < 0, Mag: mag}
}

// floorDiv is quotient and rest as the document has them: the rest has b's sign.
func floorDiv(a, b *big.Int) (q, r *big.Int) {
	q, r = new(big.Int).QuoRem(a, b, new(big.Int))
	if r.Sign()*b.Sign() < 0 {
		q.Sub(q, big.NewInt(1))
		r.Add(r, b)
	}
	return q, r
}

// dice gives the same numbers in each run.
type dice uint64

func (d *dice) next() uint32 {
	*d = *d*6364136223846793005 + 1442695040888963407
	return uint32(*d >> 33 * 2654435761)
}

func (d *dice) row(n int) []uint32 {
	mag := make([]uint32, n)
	for i := range mag {
		mag[i] = d.next()
	}
	return mag
}

// sizes are short and long, trimmed and not.
func sizes() [][]uint32 {
	list := [][]uint32{
		nil, {0}, {0, 0, 0}, {1}, {1, 0}, {2}, {3}, {7}, {10}, {top - 1}, {top}, {top, 0, 0},
		{0, 1}, {1, 1}, {0, 1, 0}, {top, 1<<31 - 1}, {0, 1 << 31}, {0, 1 << 31, 0}, {1, 1 << 31}, {top, top},
		{0, 0, 1}, {1, 0, 1}, {top, top, top}, {5, 7, 0, 9, 0, 0},
	}
	d := dice(1)
	return append(list, d.row(3), d.row(5), append(d.row(7), 0), d.row(20))
}

// ints are of both signs, plain and not.
func ints() []api.Int {
	var list []api.Int
	for _, mag := range sizes() {
		list = append(list, api.Int{Mag: mag}, api.Int{Neg: true, Mag: mag})
	}
	return list
}

// lent is a number with room behind it that isn't the call's to write to, and what all of it was.
type lent struct {
	a        api.Int
	all, was []uint32
}

func lend(a api.Int) lent {
	all := append(slices.Clone(a.Mag), 77, 78, 79)
	return lent{api.Int{Neg: a.Neg, Mag: all[:len(a.Mag)]}, all, slices.Clone(all)}
}

// takeBack sees to it that nothing was changed, and writes all over, so that an answer that shares it can be told.
func (l lent) takeBack(t *testing.T) {
	t.Helper()
	if !slices.Equal(l.all, l.was) {
		t.Fatalf("rule 3: what was handed in was changed: %v is now %v", l.was, l.all)
	}
	for i := range l.all {
		l.all[i] = 0xabcdef
	}
}

func same(a, b api.Int) bool {
	return a.Neg == b.Neg && slices.Equal(a.Mag, b.Mag)
}

func isZero(a api.Int) bool {
	return same(a, api.Int{})
}

func wantInt(t *testing.T, what string, got api.Int, want *big.Int) {
	t.Helper()
	if !same(got, intOf(want)) {
		t.Fatalf("%v: %v, not %v", what, got, intOf(want))
	}
}

// checkOne holds call against the plain model for a.
func checkOne(t *testing.T, what string, call func(a api.Int) api.Int, a api.Int, want *big.Int) {
	t.Helper()
	l := lend(a)
	got := call(l.a)
	l.takeBack(t)
	if !same(got, intOf(want)) {
		t.Fatalf("%v of %v: %v, not %v", what, a, got, intOf(want))
	}
}

// checkTwo holds call against the plain model for a and b.
func checkTwo(t *testing.T, what string, call func(a, b api.Int) api.Int, a, b api.Int, want *big.Int) {
	t.Helper()
	l, m := lend(a), lend(b)
	got := call(l.a, m.a)
	l.takeBack(t)
	m.takeBack(t)
	if !same(got, intOf(want)) {
		t.Fatalf("%v of %v and %v: %v, not %v", what, a, b, got, intOf(want))
	}
}

// checkDiv holds Div against the plain model for a and b.
func checkDiv(t *testing.T, a, b api.Int) {
	t.Helper()
	x, y := bigOf(a), bigOf(b)
	l, m := lend(a), lend(b)
	q, r, ok := whole.Div(l.a, m.a)
	l.takeBack(t)
	m.takeBack(t)
	if y.Sign() == 0 {
		if ok || !isZero(q) || !isZero(r) {
			t.Fatalf("P2.1: Div of %v by 0: %v %v %v", a, q, r, ok)
		}
		return
	}
	wantQ, wantR := floorDiv(x, y)
	if !ok || !same(q, intOf(wantQ)) || !same(r, intOf(wantR)) {
		t.Fatalf("P2.1: Div of %v by %v: %v %v %v, not %v %v", a, b, q, r, ok, wantQ, wantR)
	}
	clear(q.Mag[:cap(q.Mag)])
	if !same(r, intOf(wantR)) {
		t.Fatalf("rule 3: Div of %v by %v: the rest shares the quotient's memory", a, b)
	}
}

// checkPair holds every call of two numbers against the plain model.
func checkPair(t *testing.T, a, b api.Int) {
	t.Helper()
	x, y := bigOf(a), bigOf(b)
	l, m := lend(a), lend(b)
	if got := whole.Cmp(l.a, m.a); got != x.Cmp(y) {
		t.Fatalf("P2.1: Cmp of %v and %v: %v", a, b, got)
	}
	l.takeBack(t)
	m.takeBack(t)
	checkTwo(t, "P2.1: Add", whole.Add, a, b, new(big.Int).Add(x, y))
	checkTwo(t, "P2.1: Sub", whole.Sub, a, b, new(big.Int).Sub(x, y))
	checkTwo(t, "P2.1: Mul", whole.Mul, a, b, new(big.Int).Mul(x, y))
	checkDiv(t, a, b)
}
