package cert_test

import (
	"math/big"
	"slices"

	"heijunka/api"
)

func plus(mag ...uint32) api.Int  { return api.Int{Mag: mag} }
func minus(mag ...uint32) api.Int { return api.Int{Neg: true, Mag: mag} }

// wrong are fractions that may not be.
func wrong() []api.Rat {
	return []api.Rat{
		{}, {Num: plus(5)}, {Num: minus(5)}, {Num: plus(5), Den: plus(0, 0)}, {Num: plus(5), Den: minus(3)}, {Num: minus(5), Den: minus(3)}, {Num: plus(1), Den: minus(0)},
	}
}

// noughts are fractions that are 0, plain and not.
func noughts() []api.Rat {
	return []api.Rat{
		{Den: plus(1)}, {Num: minus(), Den: plus(7)}, {Num: plus(0, 0), Den: plus(4, 0)}, {Num: minus(0), Den: plus(0, 2)},
	}
}

// tiny is a fraction that is only just above 0.
func tiny() *big.Rat {
	return new(big.Rat).SetFrac(big.NewInt(1), new(big.Int).Lsh(big.NewInt(1), 100))
}

// dice gives the same numbers in each run.
type dice uint64

func (d *dice) next() uint32 {
	*d = *d*6364136223846793005 + 1442695040888963407
	return uint32(*d >> 33 * 2654435761)
}

// below is a number from 0 to n - 1.
func (d *dice) below(n int) int { return int(d.next()>>8) % n }

// few is a small whole number, often 0.
func (d *dice) few() *big.Rat { return big.NewRat(int64(max(d.below(9)-2, 0)-d.below(3)), 1) }

// short is a fraction of few digits, often 0.
func (d *dice) short() *big.Rat {
	if d.below(3) == 0 {
		return new(big.Rat)
	}
	return big.NewRat(int64(d.below(19)-9), int64(1+d.below(5)))
}

// long is a fraction of many digits.
func (d *dice) long() *big.Rat {
	size := func() *big.Int {
		mag := make([]uint32, 1+d.below(4))
		for i := range mag {
			mag[i] = d.next() | 1
		}
		return bigInt(api.Int{Neg: d.below(2) == 0, Mag: mag})
	}
	return new(big.Rat).SetFrac(size(), size())
}

// mixed is a fraction of any kind.
func (d *dice) mixed() *big.Rat {
	if d.below(4) == 0 {
		return d.long()
	}
	return d.short()
}

func (d *dice) row(n int, one func() *big.Rat) []*big.Rat {
	out := make([]*big.Rat, n)
	for i := range out {
		out[i] = one()
	}
	return out
}

func (d *dice) table(m, n int, one func() *big.Rat) [][]*big.Rat {
	out := make([][]*big.Rat, m)
	for i := range out {
		out[i] = d.row(n, one)
	}
	return out
}

// sizes is a row of numbers that aren't below 0.
func (d *dice) sizes(n int, one func() *big.Rat) []*big.Rat {
	out := d.row(n, one)
	for _, x := range out {
		x.Abs(x)
	}
	return out
}

// above is a number above 0.
func (d *dice) above(one func() *big.Rat) *big.Rat {
	for {
		if x := one(); x.Sign() != 0 {
			return x.Abs(x)
		}
	}
}

// made is a problem of these rows, which y is to fulfil, and what is made of numbers for its rows: each row against which something below 0 would be held is turned, with its number.
func made(a [][]*big.Rat, y, c, u []*big.Rat) (api.Std, []api.Rat) {
	s := api.Std{C: ratRow(c)}
	for i := range a {
		b := dot(a[i], y)
		if isBelow(b) {
			b.Neg(b)
			u[i].Neg(u[i])
			for _, x := range a[i] {
				x.Neg(x)
			}
		}
		s.A, s.B = append(s.A, ratRow(a[i])), append(s.B, ratOf(b))
	}
	return s, ratRow(u)
}

// best is a problem of m rows and n columns, with what proves its best.
func (d *dice) best(m, n int, one func() *big.Rat) claim {
	a, y, u := d.table(m, n, one), d.sizes(n, one), d.row(m, one)
	c := d.sizes(n, one) // what a column by u is below its cost: only where y is 0
	for j := range c {
		if y[j].Sign() != 0 && c[j].Sign() != 0 {
			if d.below(2) == 0 {
				y[j] = new(big.Rat)
			} else {
				c[j] = new(big.Rat)
			}
		}
		for i := range a {
			c[j].Add(c[j], times(a[i][j], u[i]))
		}
	}
	s, proof := made(a, y, c, u)
	return claim{s, api.Sol{How: api.Best, Y: ratRow(y), Value: ratOf(dot(c, y)), Proof: proof}}
}

// none is a problem of m rows, one at least, and n columns, with what proves that none fulfil it.
func (d *dice) none(m, n int, one func() *big.Rat) claim {
	a, b, u, k := d.table(m, n, one), d.sizes(m, one), d.row(m, one), d.below(m)
	u[k], b[k] = d.above(one), new(big.Rat)
	for j := range n {
		a[k][j] = new(big.Rat)
		x := new(big.Rat)
		for i := range a {
			x.Add(x, times(a[i][j], u[i]))
		}
		slack := one()
		a[k][j] = through(x.Neg(x.Add(x, slack.Abs(slack))), u[k])
	}
	b[k] = d.above(one)
	if rest := less(dot(b, u), times(b[k], u[k])); isBelow(rest) {
		b[k].Sub(b[k], through(rest, u[k]))
	}
	s := api.Std{B: ratRow(b), C: ratRow(d.row(n, one))}
	for i := range a {
		s.A = append(s.A, ratRow(a[i]))
	}
	return claim{s, api.Sol{How: api.None, Proof: ratRow(u)}}
}

// endless is a problem of m rows and n columns, one at least, with what proves that there is no least.
func (d *dice) endless(m, n int, one func() *big.Rat) claim {
	a, y, c, ray, k := d.table(m, n, one), d.sizes(n, one), d.row(n, one), d.sizes(n, one), d.below(n)
	ray[k] = d.above(one)
	for i := range a {
		a[i][k] = new(big.Rat)
		a[i][k] = through(new(big.Rat).Neg(dot(a[i], ray)), ray[k])
	}
	c[k] = new(big.Rat)
	c[k] = through(new(big.Rat).Neg(sum(dot(c, ray), d.above(one))), ray[k])
	s, _ := made(a, y, c, d.row(m, one))
	return claim{s, api.Sol{How: api.Endless, Y: ratRow(y), Ray: ratRow(ray)}}
}

// full is c with numbers in the fields, too, that mean nothing by its How.
func (d *dice) full(c claim, one func() *big.Rat) claim {
	m, n := len(c.S.A), len(c.S.C)
	c.X.Basis = []int{-1, d.below(100)}
	switch c.X.How {
	case api.Best:
		c.X.Ray = ratRow(d.row(n, one))
	case api.None:
		c.X.Y, c.X.Ray, c.X.Value = ratRow(d.row(n, one)), ratRow(d.row(n, one)), ratOf(one())
	case api.Endless:
		c.X.Proof, c.X.Value = ratRow(d.row(m, one)), ratOf(one())
	}
	return c
}

// rough is c with fractions that are as great, but not plain.
func (d *dice) rough(c claim) claim {
	c = lendClaim(c)
	for _, x := range places(&c) {
		if x.Num.Mag == nil && d.below(2) == 0 {
			*x = noughts()[d.below(len(noughts()))]
			continue
		}
		k := big.NewInt(int64(1 + d.below(30)))
		num, den := intOf(new(big.Int).Mul(k, bigInt(x.Num))), intOf(new(big.Int).Mul(k, bigInt(x.Den)))
		num.Mag, den.Mag = append(num.Mag, make([]uint32, d.below(3))...), append(den.Mag, make([]uint32, d.below(3))...)
		*x = api.Rat{Num: num, Den: den}
	}
	return c
}

// kinds are claims that hold, one of each How, of m rows and n columns, where there are such.
func (d *dice) kinds(m, n int, one func() *big.Rat) []claim {
	list := []claim{d.best(m, n, one)}
	if m > 0 {
		list = append(list, d.none(m, n, one))
	}
	if n > 0 {
		list = append(list, d.endless(m, n, one))
	}
	for i := range list {
		list[i] = d.full(list[i], one)
	}
	return slices.Clip(list)
}
