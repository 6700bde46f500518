package ratio_test

import (
	"math/big"
	"slices"
	"testing"

	"heijunka/api"
	"heijunka/ratio"
)

// top is the greatest limb.
const top = 1<<32 - 1

// bigInt is the plain model's number of a.
func bigInt(a api.Int) *big.Int {
	x := new(big.Int)
	for _, limb := range slices.Backward(a.Mag) {
		x.Lsh(x, 32)
		x.Add(x, big.NewInt(int64(limb)))
	}
	if a.Neg {
		x.Neg(x)
	}
	return x
}

// intOf is the plain model's number, plain.
func intOf(x *big.Int) api.Int {
	var mag []uint32
	size, limb := new(big.Int).Abs(x), new(big.Int)
	for size.Sign() > 0 {
		limb.And(size, big.NewInt(top))
		mag = append(mag, uint32(limb.Int64()))
		size.Rsh(size, 32)
	}
	return api.Int{Neg: x.Sign() < 0, Mag: mag}
}

// mayBe is what the document says of it.
func mayBe(a api.Rat) bool {
	return bigInt(a.Den).Sign() > 0
}

// bigRat is the plain model's fraction that a counts as.
func bigRat(a api.Rat) *big.Rat {
	if !mayBe(a) {
		return new(big.Rat)
	}
	return new(big.Rat).SetFrac(bigInt(a.Num), bigInt(a.Den))
}

// ratOf is the plain model's fraction, plain.
func ratOf(x *big.Rat) api.Rat {
	return api.Rat{Num: intOf(x.Num()), Den: intOf(x.Denom())}
}

// floorOf is the greatest whole number not above x.
func floorOf(x *big.Rat) *big.Int {
	return new(big.Int).Div(x.Num(), x.Denom()) // rounded down, as divisors here are above 0
}

// of is num by den.
func of(t *testing.T, num, den int64) api.Rat {
	t.Helper()
	a, ok := ratio.Of(num, den)
	if !ok {
		t.Fatalf("P3.1: Of %v, %v", num, den)
	}
	return a
}

// dice gives the same numbers in each run.
type dice uint64

func (d *dice) next() uint32 {
	*d = *d*6364136223846793005 + 1442695040888963407
	return uint32(*d >> 33 * 2654435761)
}

func (d *dice) limbs(n int) []uint32 {
	mag := make([]uint32, n)
	for i := range mag {
		mag[i] = d.next()
	}
	return mag
}

// sizes are short and long, trimmed and not, and lie about where fractions grow too long for machine words.
func sizes() [][]uint32 {
	d := dice(1)
	return [][]uint32{
		nil, {0}, {1}, {2, 0}, {3}, {12}, {60},
		{1<<31 - 1}, {1 << 31}, {1<<31 + 1}, {top - 1}, {top, 0}, {0, 1},
		{top, 1<<31 - 1}, {0, 1 << 31}, {top, top}, {0, 0, 6}, d.limbs(5),
	}
}

// signs are a size with both.
func signs(mag []uint32) []api.Int {
	return []api.Int{{Mag: mag}, {Neg: true, Mag: mag}}
}

// rats are fractions of many kinds: plain and not, and such as may not be.
func rats() []api.Rat {
	var list []api.Rat
	for i, num := range sizes() {
		for k, den := range sizes() {
			for _, n := range signs(num) {
				list = append(list, api.Rat{Num: n, Den: api.Int{Mag: den}})
			}
			if (i+k)%6 == 0 {
				list = append(list, api.Rat{Num: signs(num)[i%2], Den: api.Int{Neg: true, Mag: den}})
			}
		}
	}
	return list
}

// some are fewer of them, for what takes long.
func some(n int) []api.Rat {
	d := dice(7)
	list := rats()
	out := []api.Rat{{}}
	for len(out) < n {
		out = append(out, list[int(d.next())%len(list)])
	}
	return out
}

// lent is a fraction with room behind its numbers that isn't the call's to write to, and what all of it was.
type lent struct {
	a        api.Rat
	all, was [2][]uint32
}

func lend(a api.Rat) lent {
	num, den := append(slices.Clone(a.Num.Mag), 77, 78, 79), append(slices.Clone(a.Den.Mag), 87, 88, 89)
	return lent{
		a: api.Rat{
			Num: api.Int{Neg: a.Num.Neg, Mag: num[:len(a.Num.Mag)]},
			Den: api.Int{Neg: a.Den.Neg, Mag: den[:len(a.Den.Mag)]},
		},
		all: [2][]uint32{num, den},
		was: [2][]uint32{slices.Clone(num), slices.Clone(den)},
	}
}

// takeBack sees to it that nothing was changed, and writes all over, so that an answer that shares it can be told.
func (l lent) takeBack(t *testing.T) {
	t.Helper()
	for k, all := range l.all {
		if !slices.Equal(all, l.was[k]) {
			t.Fatalf("rule 3: what was handed in was changed: %v is now %v", l.was[k], all)
		}
		for i := range all {
			all[i] = 0xabcdef
		}
	}
}

func sameInt(a, b api.Int) bool {
	return a.Neg == b.Neg && slices.Equal(a.Mag, b.Mag)
}

func same(a, b api.Rat) bool {
	return sameInt(a.Num, b.Num) && sameInt(a.Den, b.Den)
}

// isNothing tells 0 by 1.
func isNothing(a api.Rat) bool {
	return same(a, api.Rat{Den: api.Int{Mag: []uint32{1}}})
}

// wantRat holds an answer, which is to be plain, against the plain model's.
func wantRat(t *testing.T, got api.Rat, want *big.Rat, what string, args ...api.Rat) {
	t.Helper()
	if !same(got, ratOf(want)) {
		t.Fatalf("%v of %v: %v, not %v", what, args, got, want)
	}
	clear(got.Num.Mag[:cap(got.Num.Mag)])
	if !sameInt(got.Den, intOf(want.Denom())) {
		t.Fatalf("rule 3: %v of %v: the answer's numbers share memory", what, args)
	}
}

// checkOne holds call against the plain model for a.
func checkOne(t *testing.T, what string, call func(a api.Rat) api.Rat, a api.Rat, want *big.Rat) {
	t.Helper()
	l := lend(a)
	got := call(l.a)
	l.takeBack(t)
	wantRat(t, got, want, what, a)
}

// checkInt holds call, that answers a whole number, against the plain model for a.
func checkInt(t *testing.T, what string, call func(a api.Rat) api.Int, a api.Rat, want *big.Int) {
	t.Helper()
	l := lend(a)
	got := call(l.a)
	l.takeBack(t)
	if !sameInt(got, intOf(want)) {
		t.Fatalf("%v of %v: %v, not %v", what, a, got, want)
	}
}

// checkTwo holds call against the plain model for a and b.
func checkTwo(t *testing.T, what string, call func(a, b api.Rat) api.Rat, a, b api.Rat, want *big.Rat) {
	t.Helper()
	l, m := lend(a), lend(b)
	got := call(l.a, m.a)
	l.takeBack(t)
	m.takeBack(t)
	wantRat(t, got, want, what, a, b)
}

// checkDiv holds Div against the plain model for a and b.
func checkDiv(t *testing.T, a, b api.Rat) {
	t.Helper()
	x, y := bigRat(a), bigRat(b)
	l, m := lend(a), lend(b)
	q, ok := ratio.Div(l.a, m.a)
	l.takeBack(t)
	m.takeBack(t)
	if y.Sign() == 0 {
		if ok || !isNothing(q) {
			t.Fatalf("P3.1: %v by 0, as %v: %v %v", a, b, q, ok)
		}
		return
	}
	if !ok {
		t.Fatalf("P3.1: %v by %v: false", a, b)
	}
	wantRat(t, q, new(big.Rat).Quo(x, y), "P3.1: Div", a, b)
}

// checkPair holds every call of two fractions against the plain model.
func checkPair(t *testing.T, a, b api.Rat) {
	t.Helper()
	x, y := bigRat(a), bigRat(b)
	l, m := lend(a), lend(b)
	if got := ratio.Cmp(l.a, m.a); got != x.Cmp(y) {
		t.Fatalf("P3.1: Cmp of %v and %v: %v", a, b, got)
	}
	l.takeBack(t)
	m.takeBack(t)
	checkTwo(t, "P3.1: Add", ratio.Add, a, b, new(big.Rat).Add(x, y))
	checkTwo(t, "P3.1: Sub", ratio.Sub, a, b, new(big.Rat).Sub(x, y))
	checkTwo(t, "P3.1: Mul", ratio.Mul, a, b, new(big.Rat).Mul(x, y))
	checkDiv(t, a, b)
}
