package prob_test

import (
	"fmt"
	"math/big"
	"reflect"
	"slices"
	"testing"

	"heijunka/api"
	"heijunka/prob"
)

// top is the greatest limb.
const top = 1<<32 - 1

// bigInt is the plain model's number of a.
func bigInt(a api.Int) *big.Int {
	x := new(big.Int)
	for _, limb := range slices.Backward(a.Mag) {
		x.Lsh(x, 32)
		x.Add(x, big.NewInt(int64(limb)))
	}
	if a.Neg {
		x.Neg(x)
	}
	return x
}

// intOf is the plain model's number, plain.
func intOf(x *big.Int) api.Int {
	var mag []uint32
	for size := new(big.Int).Abs(x); size.Sign() > 0; size.Rsh(size, 32) {
		mag = append(mag, uint32(new(big.Int).And(size, big.NewInt(top)).Uint64()))
	}
	return api.Int{Neg: x.Sign() < 0, Mag: mag}
}

// bigRat is the plain model's fraction that a counts as.
func bigRat(a api.Rat) *big.Rat {
	den := bigInt(a.Den)
	if den.Sign() <= 0 {
		return new(big.Rat)
	}
	return new(big.Rat).SetFrac(bigInt(a.Num), den)
}

// ratOf is the plain model's fraction, plain.
func ratOf(x *big.Rat) api.Rat {
	return api.Rat{Num: intOf(x.Num()), Den: intOf(x.Denom())}
}

func bigRow(a []api.Rat) []*big.Rat {
	out := make([]*big.Rat, len(a))
	for i, x := range a {
		out[i] = bigRat(x)
	}
	return out
}

func ratRow(a []*big.Rat) []api.Rat {
	out := make([]api.Rat, len(a))
	for i, x := range a {
		out[i] = ratOf(x)
	}
	return out
}

// of is num by den, plain.
func of(num, den int64) api.Rat {
	return ratOf(big.NewRat(num, den))
}

// row is a row of whole numbers.
func row(list ...int64) []api.Rat {
	out := make([]api.Rat, len(list))
	for i, n := range list {
		out[i] = of(n, 1)
	}
	return out
}

func same(a, b api.Rat) bool {
	sameInt := func(a, b api.Int) bool { return a.Neg == b.Neg && slices.Equal(a.Mag, b.Mag) }
	return sameInt(a.Num, b.Num) && sameInt(a.Den, b.Den)
}

func plus(mag ...uint32) api.Int  { return api.Int{Mag: mag} }
func minus(mag ...uint32) api.Int { return api.Int{Neg: true, Mag: mag} }

// wrong are fractions that may not be.
func wrong() []api.Rat {
	return []api.Rat{
		{}, {Num: plus(5)}, {Num: plus(5), Den: plus(0, 0)}, {Num: plus(5), Den: minus(3)}, {Num: minus(5), Den: minus(3)}, {Num: plus(1), Den: minus(0)},
	}
}

// noughts are fractions that are 0, plain and not.
func noughts() []api.Rat {
	return []api.Rat{
		{Den: plus(1)}, {Num: minus(), Den: plus(7)}, {Num: plus(0, 0), Den: plus(4, 0)}, {Num: minus(0), Den: plus(0, 2)},
	}
}

// above are fractions above 0: short and long, plain and not.
func above() []api.Rat {
	d := dice(3)
	return []api.Rat{
		{Num: plus(1), Den: plus(1)}, {Num: plus(4, 0), Den: plus(4)}, {Num: plus(6, 0, 0), Den: plus(4, 0)}, {Num: plus(2), Den: plus(3)}, {Num: plus(0, 1), Den: plus(top)},
		{Num: plus(1<<31 - 1), Den: plus(1 << 31)}, {Num: plus(d.size(5)...), Den: plus(d.size(3)...)}, {Num: plus(d.size(2)...), Den: plus(d.size(4)...)},
	}
}

// below are those that are the opposites of above.
func below() []api.Rat {
	list := above()
	for i := range list {
		list[i].Num.Neg = true
	}
	return list
}

// rights are all kinds of fractions that may be.
func rights() []api.Rat { return slices.Concat(noughts(), above(), below()) }

// dice gives the same numbers in each run.
type dice uint64

func (d *dice) next() uint32 {
	*d = *d*6364136223846793005 + 1442695040888963407
	return uint32(*d >> 33 * 2654435761)
}

// below is a number from 0 to n - 1.
func (d *dice) below(n int) int {
	return int(d.next()>>8) % n
}

// size is a number of n limbs.
func (d *dice) size(n int) []uint32 {
	mag := make([]uint32, n)
	for i := range mag {
		mag[i] = d.next() | 1
	}
	return mag
}

// short is a fraction of few digits, often 0.
func (d *dice) short() api.Rat {
	if d.below(3) == 0 {
		return of(0, 1)
	}
	return of(int64(d.below(19)-9), int64(1+d.below(5)))
}

// kind is one of the kinds of fractions that may be.
func (d *dice) kind() api.Rat {
	list := rights()
	return list[d.below(len(list))]
}

func (d *dice) row(n int, one func() api.Rat) []api.Rat {
	out := make([]api.Rat, n)
	for i := range out {
		out[i] = one()
	}
	return out
}

// problem is one that may be, of n variables, whose rows have these senses, and of which those are open.
func (d *dice) problem(n int, senses []int, open []bool, one func() api.Rat) api.Lp {
	p := api.Lp{Cost: d.row(n, one), Lo: d.row(n, one), Hi: d.row(n, one), Open: slices.Clone(open)}
	for j := range p.Open {
		if !p.Open[j] && bigRat(p.Hi[j]).Cmp(bigRat(p.Lo[j])) < 0 {
			p.Hi[j], p.Lo[j] = p.Lo[j], p.Hi[j]
		}
	}
	for _, sense := range senses {
		p.Rows = append(p.Rows, api.Row{Coef: d.row(n, one), Sense: sense, Rhs: one()})
	}
	return p
}

// any is a problem of at most so many variables and rows.
func (d *dice) any(n, m int, one func() api.Rat) api.Lp {
	senses, open := make([]int, d.below(m+1)), make([]bool, 1+d.below(n))
	for i := range senses {
		senses[i] = d.below(3)
	}
	for j := range open {
		open[j] = d.below(2) == 0
	}
	return d.problem(len(open), senses, open, one)
}

// greatest is a problem of 24 variables and 24 rows, none of them open or an equation.
func (d *dice) greatest(one func() api.Rat) api.Lp {
	senses := make([]int, 24)
	for i := range senses {
		senses[i] = []int{api.AtMost, api.AtLeast}[i%2]
	}
	return d.problem(24, senses, make([]bool, 24), one)
}

// wide is a list with its spare room.
func wide[T any](list []T) []T { return list[:cap(list)] }

// roomy is a list with something in its spare room.
func roomy[T any](list []T, behind ...T) []T { return slices.Concat(list, behind)[:len(list)] }

// lend is a number in memory of its own, with spare room.
func lend(a api.Rat) api.Rat {
	a.Num.Mag, a.Den.Mag = roomy(a.Num.Mag, 77, 78), roomy(a.Den.Mag, 87, 88)
	return a
}

func lendRow(list []api.Rat) []api.Rat {
	var out []api.Rat
	for _, a := range append(slices.Clone(list), of(5, 3), of(-8, 9)) {
		out = append(out, lend(a))
	}
	return out[:len(list)]
}

func lendTable(t [][]api.Rat) [][]api.Rat {
	var out [][]api.Rat
	for _, list := range append(slices.Clone(t), row(1, 2), row(3)) {
		out = append(out, lendRow(list))
	}
	return out[:len(t)]
}

func lendLp(p api.Lp) api.Lp {
	q := api.Lp{Cost: lendRow(p.Cost), Lo: lendRow(p.Lo), Hi: lendRow(p.Hi), Open: roomy(p.Open, true, false)}
	for _, r := range append(slices.Clone(p.Rows), api.Row{Coef: row(4, 5), Sense: api.Equal, Rhs: of(6, 1)}) {
		q.Rows = append(q.Rows, api.Row{Coef: lendRow(r.Coef), Sense: r.Sense, Rhs: lend(r.Rhs)})
	}
	q.Rows = q.Rows[:len(p.Rows)]
	return q
}

func lendStd(s api.Std) api.Std {
	return api.Std{A: lendTable(s.A), B: lendRow(s.B), C: lendRow(s.C)}
}

// fill goes through all that can be reached from a value, spare room too; each number is given to one, and what that tells is put there.
func fill(v reflect.Value, one func(old uint64) uint64) {
	switch v.Kind() {
	case reflect.Struct:
		for i := range v.NumField() {
			fill(v.Field(i), one)
		}
	case reflect.Slice:
		for i := range v.Cap() {
			fill(v.Slice(0, v.Cap()).Index(i), one)
		}
	case reflect.Uint32:
		v.SetUint(one(v.Uint()) % (top + 1))
	case reflect.Int:
		v.SetInt(int64(one(uint64(v.Int()))))
	case reflect.Bool:
		old := uint64(0)
		if v.Bool() {
			old = 1
		}
		v.SetBool(one(old)%2 == 1)
	default:
		panic(v.Kind())
	}
}

// takeBack sees to it that what was handed in, by its address, is still what it was, spare room too; it writes over all of it, so that an answer that shares it can be told.
func takeBack[T any](t *testing.T, x *T, was *T) {
	t.Helper()
	var now, then []uint64
	fill(reflect.ValueOf(x).Elem(), func(old uint64) uint64 { now = append(now, old); return old + 77 })
	fill(reflect.ValueOf(was).Elem(), func(old uint64) uint64 { then = append(then, old); return old })
	if !slices.Equal(now, then) {
		t.Fatalf("rule 3: what was handed in was changed: %v was %v", now, then)
	}
}

// wantOwn sees to it that no two places of an answer, given by its address, share memory, spare room too. It writes over it.
func wantOwn[T any](t *testing.T, x *T, what string) {
	t.Helper()
	n, k := uint64(0), uint64(0)
	shared := false
	fill(reflect.ValueOf(x).Elem(), func(uint64) uint64 { n++; return n })
	fill(reflect.ValueOf(x).Elem(), func(old uint64) uint64 {
		k++
		shared = shared || old != k && old != k%2 // a bool keeps one bit
		return old
	})
	if shared {
		t.Fatalf("rule 3: %v: two parts of the answer share memory", what)
	}
}

// text is something as it can be read in a message.
func text(x any) string {
	switch v := x.(type) {
	case api.Rat:
		if bigInt(v.Den).Sign() <= 0 {
			return fmt.Sprintf("%v/%v", bigInt(v.Num), bigInt(v.Den))
		}
		return bigRat(v).RatString()
	case []api.Rat:
		var list []string
		for _, a := range v {
			list = append(list, text(a))
		}
		return fmt.Sprint(list)
	case api.Std:
		s := ""
		for _, a := range v.A {
			s += text(a)
		}
		return "A " + s + " B " + text(v.B) + " C " + text(v.C)
	case api.Lp:
		s := fmt.Sprint("cost ", text(v.Cost), " lo ", text(v.Lo), " hi ", text(v.Hi), " open ", v.Open)
		for _, r := range v.Rows {
			s += fmt.Sprint(" row ", text(r.Coef), " ", r.Sense, " ", text(r.Rhs))
		}
		return s
	}
	return fmt.Sprint(x)
}

func sum(list ...*big.Rat) *big.Rat {
	out := new(big.Rat)
	for _, x := range list {
		out.Add(out, x)
	}
	return out
}

// by is a row by another one.
func by(a, b []*big.Rat) *big.Rat {
	out := new(big.Rat)
	for i, x := range a {
		out.Add(out, new(big.Rat).Mul(x, b[i]))
	}
	return out
}

func less(a, b *big.Rat) *big.Rat { return new(big.Rat).Sub(a, b) }

// wantMay sees to it that p may be, or that all calls tell that it may not.
func wantMay(t *testing.T, p api.Lp, may bool, what string) {
	t.Helper()
	q, was := lendLp(p), lendLp(p)
	got := prob.May(q)
	takeBack(t, &q, &was)
	if got != may {
		t.Fatalf("P11.1: May is %v: %v: %v", got, what, text(p))
	}
	if !may {
		wantRefused(t, p, what)
	}
}

// wantRefused holds what the other calls answer to a problem that may not be.
func wantRefused(t *testing.T, p api.Lp, what string) {
	t.Helper()
	q, was := lendLp(p), lendLp(p)
	s, rest, code := prob.Standard(q)
	takeBack(t, &q, &was)
	if code != api.Arg || len(s.A)+len(s.B)+len(s.C) != 0 || !same(rest, of(0, 1)) {
		t.Fatalf("P11.1: Standard, but %v: %v, rest %v, %v", what, text(s), text(rest), code)
	}
	for width := range 6 {
		x := row(1, 2, 3, 4, 5, 6)[:width]
		q = lendLp(p)
		if got, code := prob.Back(q, x); code != api.Arg || len(got) != 0 {
			t.Fatalf("P11.2: Back, but %v: %v, %v", what, text(got), code)
		}
		if prob.Fulfils(q, x) {
			t.Fatalf("P11.2: Fulfils, but %v", what)
		}
		if c, ok := prob.Cost(q, x); ok || !same(c, of(0, 1)) {
			t.Fatalf("P11.2: Cost, but %v: %v, %v", what, text(c), ok)
		}
		takeBack(t, &q, &was)
	}
}
