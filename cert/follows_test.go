package cert_test

import (
	"math/big"
	"testing"

	"heijunka/api"
	"heijunka/cert"
)

// grid are all rows of n numbers from a list.
func grid(n int, list []*big.Rat) [][]*big.Rat {
	out := [][]*big.Rat{nil}
	for range n {
		var more [][]*big.Rat
		for _, a := range out {
			for _, x := range list {
				more = append(more, append(a[:len(a):len(a)], x))
			}
		}
		out = more
	}
	return out
}

// halves are the halves from one to another.
func halves(from, to int64) []*big.Rat {
	var out []*big.Rat
	for k := from; k <= to; k++ {
		out = append(out, big.NewRat(k, 2))
	}
	return out
}

// small is a problem of m rows and n columns, fulfilled by some numbers of the grid, or by chance by none.
func (d *dice) small(m, n int) api.Std {
	few := func() *big.Rat { return big.NewRat(int64(d.below(5)-2), 1) }
	y := d.sizes(n, few)
	s, _ := made(d.table(m, n, few), y, d.row(n, few), d.row(m, few))
	if d.below(2) == 0 {
		s.B = ratRow(d.sizes(m, few))
	}
	return s
}

// TestNothingIsProvenThatIsNot: of small problems all numbers of a grid, and all row numbers.
func TestNothingIsProvenThatIsNot(t *testing.T) {
	d := dice(31)
	best, none := 0, 0
	for range 250 {
		m, n := 1+d.below(2), 1+d.below(3)
		s := d.small(m, n)
		var fit [][]api.Rat
		for _, y := range grid(n, halves(0, 6)) {
			if z := ratRow(y); fulfils(s, z) {
				fit = append(fit, z)
			}
		}
		for _, u := range grid(m, halves(-4, 4)) {
			if cert.None(s, ratRow(u)) {
				none++
				if len(fit) > 0 {
					t.Fatalf("P12.4: None of %v, but %v fulfil it", text(claim{S: s}), text(fit[0]))
				}
			}
			for _, y := range fit[:min(len(fit), 12)] {
				if cert.Best(s, y, ratRow(u)) {
					best++
					wantLeast(t, s, y, fit)
				}
			}
		}
	}
	if best < 100 || none < 100 {
		t.Errorf("too few of a kind: %v best, %v none", best, none)
	}
}

// wantLeast sees to it that none of the numbers that fulfil s cost less than y.
func wantLeast(t *testing.T, s api.Std, y []api.Rat, fit [][]api.Rat) {
	t.Helper()
	for _, z := range fit {
		if dot(bigRow(s.C), bigRow(z)).Cmp(dot(bigRow(s.C), bigRow(y))) < 0 {
			t.Fatalf("P12.4: Best of %v, but %v cost less", text(claim{S: s, X: api.Sol{Y: y}}), text(z))
		}
	}
}

// TestEndlessGoesOn: so many times the ray further, s is fulfilled still, at any cost below.
func TestEndlessGoesOn(t *testing.T) {
	d := dice(32)
	for range 100 {
		c := d.endless(1+d.below(3), 1+d.below(4), d.mixed)
		if !cert.Endless(c.S, c.X.Y, c.X.Ray) {
			t.Fatalf("P12.2: this doesn't hold: %v", text(c))
		}
		cost := bigRow(c.S.C)
		falls := dot(cost, bigRow(c.X.Ray))
		for _, goal := range []int64{0, -1, -1000, -1 << 62} {
			far := through(less(big.NewRat(goal, 1), dot(cost, bigRow(c.X.Y))), falls)
			far = sum(far.Abs(far), big.NewRat(1, 1))
			var y []*big.Rat
			for j, x := range c.X.Y {
				y = append(y, sum(bigRat(x), times(far, bigRat(c.X.Ray[j]))))
			}
			if !cert.Fulfils(c.S, ratRow(y)) || dot(cost, y).Cmp(big.NewRat(goal, 1)) >= 0 {
				t.Fatalf("P12.4: %v: from %v on %v isn't gone below", text(c), text(ratRow(y)), goal)
			}
		}
	}
}

// TestOneOfThem: what is proven in one way isn't proven in another.
func TestOneOfThem(t *testing.T) {
	d := dice(33)
	for range 300 {
		m, n := 1+d.below(3), 1+d.below(3)
		for _, c := range d.kinds(m, n, d.short) {
			for _, o := range d.kinds(m, n, d.few) { // somebody else's numbers for the same problem
				o.S = c.S
				got := wantClaim(t, o)
				if c.X.How != api.Best && got.best || c.X.How != api.None && got.none || c.X.How != api.Endless && got.endless {
					t.Fatalf("P12.4: %v, though it comes out as %v", text(o), c.X.How)
				}
			}
		}
	}
}
