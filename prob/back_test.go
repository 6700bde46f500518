package prob_test

import (
	"fmt"
	"math/big"
	"slices"
	"testing"

	"heijunka/api"
	"heijunka/prob"
)

// width is how many columns the plain model's standard form of p has.
func width(p api.Lp) int {
	n := len(p.Cost)
	for _, l := range lines(p) {
		if l.extra != 0 {
			n++
		}
	}
	return n
}

// wantBack holds Back of p, that may be, against the plain model.
func wantBack(t *testing.T, p api.Lp, y []api.Rat) {
	t.Helper()
	q, was := lendLp(p), lendLp(p)
	z, before := lendRow(y), lendRow(y)
	got, code := prob.Back(q, z)
	takeBack(t, &q, &was)
	takeBack(t, &z, &before)
	if len(y) != width(p) {
		if code != api.Arg || len(got) != 0 {
			t.Fatalf("P11.2: Back of %v, of %v numbers: %v, %v", text(p), len(y), text(got), code)
		}
		return
	}
	var want []*big.Rat
	for j, lo := range p.Lo {
		want = append(want, sum(bigRat(y[j]), bigRat(lo)))
	}
	if code != api.OK || !sameRow(got, want) {
		t.Fatalf("P11.2: Back of %v, %v: %v, %v, not %v", text(p), text(y), text(got), code, want)
	}
	wantOwn(t, &got, "Back")
}

func TestBackOfAllShapes(t *testing.T) {
	d := dice(51)
	any := func() api.Rat { return slices.Concat(rights(), wrong())[d.below(len(rights())+len(wrong()))] }
	shapes(3, 3, func(senses []int, open []bool) {
		p := d.problem(len(open), senses, open, d.kind)
		for k := range width(p) + 4 {
			wantBack(t, p, d.row(k, d.short))
		}
		wantBack(t, p, d.row(width(p), any))
	})
}

func TestBackOfTheGreatest(t *testing.T) {
	d := dice(52)
	p := d.greatest(d.kind)
	for _, k := range []int{0, 1, 23, 24, 25, 48, 71, 72, 73, 80, 81, 500} {
		wantBack(t, p, d.row(k, d.kind))
	}
}

// TestBackOfWrongNumbers: such as may not be count as 0.
func TestBackOfWrongNumbers(t *testing.T) {
	p := api.Lp{Cost: row(1), Lo: []api.Rat{of(7, 2)}, Hi: row(4), Open: []bool{false}}
	for _, x := range wrong() {
		for _, other := range wrong() {
			got, code := prob.Back(p, []api.Rat{x, other})
			if code != api.OK || text(got) != "[7/2]" {
				t.Errorf("P11.2: Back of %v: %v, %v", text(x), text(got), code)
			}
		}
	}
}

// fulfils is the plain model's: whether numbers fulfil p, that may be.
func fulfils(p api.Lp, x []api.Rat) bool {
	if len(x) != len(p.Cost) {
		return false
	}
	y := bigRow(x)
	for j := range y {
		y[j] = less(y[j], bigRat(p.Lo[j]))
	}
	for _, l := range lines(p) { // what is left of each line is what its extra number would have to be
		left := less(l.comes, by(l.coef, y))
		if l.extra == 0 && left.Sign() != 0 || int64(left.Sign())*l.extra < 0 {
			return false
		}
	}
	return !slices.ContainsFunc(y, func(v *big.Rat) bool { return v.Sign() < 0 })
}

// wantFulfils holds Fulfils and Cost of p, that may be, against the plain model, and tells whether x fulfils it.
func wantFulfils(t *testing.T, p api.Lp, x []api.Rat) bool {
	t.Helper()
	want := fulfils(p, x)
	q, was := lendLp(p), lendLp(p)
	z, before := lendRow(x), lendRow(x)
	got := prob.Fulfils(q, z)
	c, ok := prob.Cost(q, z)
	takeBack(t, &q, &was)
	takeBack(t, &z, &before)
	if got != want {
		t.Fatalf("P11.2: Fulfils of %v, %v: %v", text(p), text(x), got)
	}
	cost := new(big.Rat)
	if len(x) == len(p.Cost) {
		cost = by(bigRow(p.Cost), bigRow(x))
	}
	if ok != (len(x) == len(p.Cost)) || !same(c, ratOf(cost)) {
		t.Fatalf("P11.2: Cost of %v, %v: %v, %v, not %v", text(p), text(x), text(c), ok, cost)
	}
	wantOwn(t, &c, "Cost")
	return want
}

func TestFulfilsByHand(t *testing.T) {
	p := sample() // x from -1 to 2, y from 0 on, z from 5 to 7; x + y <= 4; 2 x - y + z = -1; 3 y - 2 z >= 1/2
	for x, want := range map[[3]int64]bool{
		{-1, 4, 5}: true, {-2, 2, 5}: false, {-1, 5, 6}: true, {-1, 6, 7}: false, {-1, 4, 4}: false, {-2, 3, 6}: false, {-1, 3, 5}: false, {0, 4, 5}: false,
	} {
		if got := wantFulfils(t, p, row(x[0], x[1], x[2])); got != want {
			t.Errorf("P11.2: %v: %v", x, got)
		}
	}
	// x = -1: y = z - 1, from 4 up to 5 (x + y <= 4), so z from 5 to 6.
	for _, z := range []api.Rat{of(5, 1), of(11, 2), of(6, 1)} {
		y := ratOf(less(bigRat(z), big.NewRat(1, 1)))
		if !wantFulfils(t, p, []api.Rat{of(-1, 1), y, z}) {
			t.Errorf("P11.2: %v", text(z))
		}
	}
}

// TestFulfilsAtEdges: a row, and a bound, each just held, and just not.
func TestFulfilsAtEdges(t *testing.T) {
	tiny := new(big.Rat).SetFrac(big.NewInt(1), new(big.Int).Lsh(big.NewInt(1), 100))
	for _, at := range rights() {
		for k, x := range []*big.Rat{less(bigRat(at), tiny), bigRat(at), sum(bigRat(at), tiny)} {
			for sense := range 3 {
				free := api.Lp{Cost: row(1), Lo: []api.Rat{ratOf(less(bigRat(at), big.NewRat(1, 1)))}, Hi: row(0), Open: []bool{true}, Rows: []api.Row{{Coef: row(1), Sense: sense, Rhs: at}}}
				want := [][]bool{{true, true, false}, {false, true, false}, {false, true, true}}[sense][k]
				if wantFulfils(t, free, []api.Rat{ratOf(x)}) != want {
					t.Fatalf("P11.2: sense %v, at %v: %v", sense, text(at), x)
				}
			}
			low := api.Lp{Cost: row(1), Lo: []api.Rat{at}, Hi: row(0), Open: []bool{true}}
			if wantFulfils(t, low, []api.Rat{ratOf(x)}) != (k >= 1) {
				t.Fatalf("P11.2: from %v on: %v", text(at), x)
			}
			both := api.Lp{Cost: row(1), Lo: []api.Rat{at}, Hi: []api.Rat{at}, Open: []bool{false}}
			if wantFulfils(t, both, []api.Rat{ratOf(x)}) != (k == 1) {
				t.Fatalf("P11.2: from %v to it: %v", text(at), x)
			}
		}
	}
}

// TestFulfilsOfAllShapes: numbers of a small grid, all lengths near n.
func TestFulfilsOfAllShapes(t *testing.T) {
	d := dice(53)
	yes, no := 0, 0
	shapes(2, 2, func(senses []int, open []bool) {
		for range 4 {
			p := d.problem(len(open), senses, open, func() api.Rat { return of(int64(d.below(7)-3), int64(1+d.below(2))) })
			for k := range 49 {
				x := []api.Rat{of(int64(k%7-3), 1), of(int64(k/7-3), 2)}
				if len(open) == 1 {
					x = x[:1]
				}
				if wantFulfils(t, p, x) {
					yes++
				} else {
					no++
				}
			}
			for k := range 5 {
				wantFulfils(t, p, d.row(k, d.short))
			}
		}
	})
	if yes < 500 || no < 500 {
		t.Errorf("too few of a kind: %v, %v", yes, no)
	}
}

// TestFulfilsOneByOne: of numbers that fulfil all, each by itself may break a bound, or a row.
func TestFulfilsOneByOne(t *testing.T) {
	d := dice(54)
	for range 5 {
		p := d.greatest(d.short)
		x := make([]api.Rat, 24)
		for j := range x {
			x[j] = []api.Rat{p.Lo[j], p.Hi[j]}[d.below(2)]
		}
		for i := range p.Rows { // each holds by nothing
			p.Rows[i].Sense = d.below(3)
			p.Rows[i].Rhs = ratOf(by(bigRow(p.Rows[i].Coef), bigRow(x)))
		}
		if !wantFulfils(t, p, x) {
			t.Fatal("P11.2: a problem that was made so isn't fulfilled")
		}
		for j := range x {
			for _, step := range []int64{-10, 10} {
				z := slices.Clone(x)
				z[j] = ratOf(sum(bigRat(x[j]), big.NewRat(step, 1)))
				wantFulfils(t, p, z)
			}
		}
		for i := range p.Rows {
			q := lendLp(p)
			for _, step := range []int64{-1, 1} {
				q.Rows[i].Rhs = ratOf(sum(bigRat(p.Rows[i].Rhs), big.NewRat(step, 7)))
				wantFulfils(t, q, x)
			}
		}
	}
}

// TestFulfilsOfWrongNumbers: such as may not be count as 0.
func TestFulfilsOfWrongNumbers(t *testing.T) {
	for _, x := range wrong() {
		for lo := int64(-1); lo <= 1; lo++ {
			p := api.Lp{Cost: row(5), Lo: row(lo), Hi: row(1), Open: []bool{false}, Rows: []api.Row{{Coef: row(3), Sense: api.Equal, Rhs: of(0, 1)}}}
			if wantFulfils(t, p, []api.Rat{x}) != (lo <= 0) {
				t.Errorf("P11.2: %v from %v on", text(x), lo)
			}
		}
	}
}

func TestCostOfChance(t *testing.T) {
	d := dice(55)
	for range 200 {
		p := d.any(24, 3, d.kind)
		for _, k := range []int{0, len(p.Cost) - 1, len(p.Cost) + 1, 25} {
			wantFulfils(t, p, d.row(k, d.kind))
		}
		wantFulfils(t, p, d.row(len(p.Cost), d.kind))
	}
}

// TestWhatFollows: numbers that aren't below 0, and fulfil the equations, are such as fulfil the problem, of the same cost; and those that fulfil it are such.
func TestWhatFollows(t *testing.T) {
	d := dice(56)
	met := 0
	few := func() api.Rat { return of(int64(d.below(7)-3), 1) }
	for range 20000 {
		p := d.any(3, 3, few)
		s, rest, _ := prob.Standard(p)
		y := d.row(len(p.Cost), func() api.Rat { return of(int64(d.below(8)), 2) })
		for _, l := range lines(p) {
			if l.extra != 0 {
				y = append(y, ratOf(new(big.Rat).Mul(big.NewRat(l.extra, 1), less(l.comes, by(l.coef, bigRow(y[:len(p.Cost)]))))))
			}
		}
		fits := !slices.ContainsFunc(bigRow(y), func(x *big.Rat) bool { return x.Sign() < 0 })
		for i, a := range s.A {
			fits = fits && by(bigRow(a), bigRow(y)).Cmp(bigRat(s.B[i])) == 0
		}
		x, code := prob.Back(p, y)
		cost, ok := prob.Cost(p, x)
		if code != api.OK || !ok || prob.Fulfils(p, x) != fits {
			t.Fatalf("P11.3: %v, %v: %v", text(p), text(y), fmt.Sprint(text(x), " ", fits))
		}
		if bigRat(cost).Cmp(sum(by(bigRow(s.C), bigRow(y)), bigRat(rest))) != 0 {
			t.Fatalf("P11.3: %v, %v: cost %v", text(p), text(y), text(cost))
		}
		if fits {
			met++
		}
	}
	if met < 500 {
		t.Errorf("only %v fulfil their problems", met)
	}
}
