package cert_test

import (
	"fmt"
	"math/big"
	"slices"

	"heijunka/api"
)

// The plain model: the chapter's words, by the library's fractions, number by number.

// top is the greatest limb.
const top = 1<<32 - 1

// bigInt is the plain model's number of a.
func bigInt(a api.Int) *big.Int {
	x := new(big.Int)
	for _, limb := range slices.Backward(a.Mag) {
		x.Lsh(x, 32)
		x.Add(x, big.NewInt(int64(limb)))
	}
	if a.Neg {
		x.Neg(x)
	}
	return x
}

// intOf is the plain model's number, plain.
func intOf(x *big.Int) api.Int {
	var mag []uint32
	for size := new(big.Int).Abs(x); size.Sign() > 0; size.Rsh(size, 32) {
		mag = append(mag, uint32(new(big.Int).And(size, big.NewInt(top)).Uint64()))
	}
	return api.Int{Neg: x.Sign() < 0, Mag: mag}
}

// bigRat is the plain model's fraction that a counts as.
func bigRat(a api.Rat) *big.Rat {
	den := bigInt(a.Den)
	if den.Sign() <= 0 {
		return new(big.Rat)
	}
	return new(big.Rat).SetFrac(bigInt(a.Num), den)
}

// ratOf is the plain model's fraction, plain.
func ratOf(x *big.Rat) api.Rat {
	return api.Rat{Num: intOf(x.Num()), Den: intOf(x.Denom())}
}

func bigRow(a []api.Rat) []*big.Rat {
	out := make([]*big.Rat, len(a))
	for i, x := range a {
		out[i] = bigRat(x)
	}
	return out
}

func ratRow(a []*big.Rat) []api.Rat {
	out := make([]api.Rat, len(a))
	for i, x := range a {
		out[i] = ratOf(x)
	}
	return out
}

// of is num by den, plain.
func of(num, den int64) api.Rat { return ratOf(big.NewRat(num, den)) }

// row is a row of whole numbers.
func row(list ...int64) []api.Rat {
	out := make([]api.Rat, len(list))
	for i, n := range list {
		out[i] = of(n, 1)
	}
	return out
}

func same(a, b api.Rat) bool {
	sameInt := func(a, b api.Int) bool { return a.Neg == b.Neg && slices.Equal(a.Mag, b.Mag) }
	return sameInt(a.Num, b.Num) && sameInt(a.Den, b.Den)
}

func sum(a, b *big.Rat) *big.Rat     { return new(big.Rat).Add(a, b) }
func less(a, b *big.Rat) *big.Rat    { return new(big.Rat).Sub(a, b) }
func times(a, b *big.Rat) *big.Rat   { return new(big.Rat).Mul(a, b) }
func through(a, b *big.Rat) *big.Rat { return new(big.Rat).Quo(a, b) }

// dot is a row by another one.
func dot(a, b []*big.Rat) *big.Rat {
	out := new(big.Rat)
	for i, x := range a {
		out.Add(out, times(x, b[i]))
	}
	return out
}

func isBelow(x *big.Rat) bool { return x.Sign() < 0 }

// columnOf is what the rows have at place j.
func columnOf(t [][]api.Rat, j int) []*big.Rat {
	var out []*big.Rat
	for _, a := range t {
		out = append(out, bigRat(a[j]))
	}
	return out
}

// isRight is the plain model's: whether s may be.
func isRight(s api.Std) bool {
	if len(s.A) > 64 || len(s.C) > 80 || len(s.A) != len(s.B) {
		return false
	}
	for _, a := range s.A {
		if len(a) != len(s.C) {
			return false
		}
	}
	for _, x := range slices.Concat(slices.Concat(s.A...), s.B, s.C) {
		if bigInt(x.Den).Sign() <= 0 {
			return false
		}
	}
	return !slices.ContainsFunc(bigRow(s.B), isBelow)
}

// comesTo tells whether numbers are as many as columns, none is below 0, and each row by them is what b has.
func comesTo(s api.Std, y []api.Rat, b []*big.Rat) bool {
	if len(y) != len(s.C) || slices.ContainsFunc(bigRow(y), isBelow) {
		return false
	}
	for i, a := range s.A {
		if dot(bigRow(a), bigRow(y)).Cmp(b[i]) != 0 {
			return false
		}
	}
	return true
}

func fulfils(s api.Std, y []api.Rat) bool { return isRight(s) && comesTo(s, y, bigRow(s.B)) }

func columns(s api.Std, u []api.Rat) ([]*big.Rat, bool) {
	if !isRight(s) || len(u) != len(s.A) {
		return nil, false
	}
	out := []*big.Rat{}
	for j := range s.C {
		out = append(out, dot(columnOf(s.A, j), bigRow(u)))
	}
	return out, true
}

func isBest(s api.Std, y, u []api.Rat) bool {
	list, ok := columns(s, u)
	if !ok || !fulfils(s, y) {
		return false
	}
	for j, x := range list {
		if x.Cmp(bigRat(s.C[j])) > 0 {
			return false
		}
	}
	return dot(bigRow(s.B), bigRow(u)).Cmp(dot(bigRow(s.C), bigRow(y))) == 0
}

func isNone(s api.Std, u []api.Rat) bool {
	list, ok := columns(s, u)
	if !ok || slices.ContainsFunc(list, func(x *big.Rat) bool { return x.Sign() > 0 }) {
		return false
	}
	return dot(bigRow(s.B), bigRow(u)).Sign() > 0
}

func isEndless(s api.Std, y, ray []api.Rat) bool {
	return fulfils(s, y) && comesTo(s, ray, bigRow(make([]api.Rat, len(s.B)))) && isBelow(dot(bigRow(s.C), bigRow(ray)))
}

func isProven(s api.Std, x api.Sol) bool {
	switch x.How {
	case 0:
		return isBest(s, x.Y, x.Proof) && bigRat(x.Value).Cmp(dot(bigRow(s.C), bigRow(x.Y))) == 0
	case 1:
		return isNone(s, x.Proof)
	case 2:
		return isEndless(s, x.Y, x.Ray)
	}
	return false
}

// text is something as it can be read in a message.
func text(x any) string {
	switch v := x.(type) {
	case api.Rat:
		if bigInt(v.Den).Sign() <= 0 {
			return fmt.Sprintf("%v/%v", bigInt(v.Num), bigInt(v.Den))
		}
		return bigRat(v).RatString()
	case []api.Rat:
		var list []string
		for _, a := range v {
			list = append(list, text(a))
		}
		return fmt.Sprint(list)
	case claim:
		s := ""
		for _, a := range v.S.A {
			s += text(a)
		}
		return fmt.Sprint("A ", s, " B ", text(v.S.B), " C ", text(v.S.C), " how ", v.X.How, " y ", text(v.X.Y), " value ", text(v.X.Value), " proof ", text(v.X.Proof), " ray ", text(v.X.Ray))
	}
	return fmt.Sprint(x)
}
