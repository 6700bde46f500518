package prob_test

import (
	"math/big"
	"slices"
	"testing"

	"heijunka/api"
	"heijunka/prob"
)

// form is the plain model's standard form.
type form struct {
	a    [][]*big.Rat
	b, c []*big.Rat
	rest *big.Rat
}

// line is an equation under way: a sum of so many times each variable, one more number that isn't below 0 so many times, and what they come to.
type line struct {
	coef  []*big.Rat
	extra int64
	comes *big.Rat
}

// lines are the equations of p's numbers, each less its Lo: rows, then ends.
func lines(p api.Lp) []line {
	var list []line
	for _, r := range p.Rows {
		coef := bigRow(r.Coef)
		extra := map[int]int64{api.AtMost: 1, api.Equal: 0, api.AtLeast: -1}[r.Sense]
		list = append(list, line{coef, extra, less(bigRat(r.Rhs), by(coef, bigRow(p.Lo)))})
	}
	for j := range p.Cost {
		if !p.Open[j] {
			coef := bigRow(make([]api.Rat, len(p.Cost)))
			coef[j] = big.NewRat(1, 1)
			list = append(list, line{coef, 1, less(bigRat(p.Hi[j]), bigRat(p.Lo[j]))})
		}
	}
	return list
}

// formOf is the plain model's standard form of p, that may be: line by line.
func formOf(p api.Lp) form {
	list := lines(p)
	f := form{c: bigRow(p.Cost), rest: by(bigRow(p.Cost), bigRow(p.Lo))}
	extras := 0
	for _, l := range list {
		if l.extra != 0 {
			f.c = append(f.c, new(big.Rat))
			extras++
		}
	}
	behind := 0 // extras of the lines ahead
	for _, l := range list {
		a := slices.Clone(l.coef)
		for range extras {
			a = append(a, new(big.Rat))
		}
		if l.extra != 0 {
			a[len(p.Cost)+behind] = big.NewRat(l.extra, 1)
			behind++
		}
		b := l.comes
		if b.Sign() < 0 {
			b = new(big.Rat).Neg(b)
			for j := range a {
				a[j] = new(big.Rat).Neg(a[j])
			}
		}
		f.a, f.b = append(f.a, a), append(f.b, b)
	}
	return f
}

func sameRow(got []api.Rat, want []*big.Rat) bool {
	return slices.EqualFunc(got, want, func(a api.Rat, x *big.Rat) bool { return same(a, ratOf(x)) })
}

// wantStandard holds Standard of p, that may be, against the plain model.
func wantStandard(t *testing.T, p api.Lp) {
	t.Helper()
	want := formOf(p)
	q, was := lendLp(p), lendLp(p)
	s, rest, code := prob.Standard(q)
	takeBack(t, &q, &was)
	if code != api.OK || !slices.EqualFunc(s.A, want.a, sameRow) || !sameRow(s.B, want.b) || !sameRow(s.C, want.c) || !same(rest, ratOf(want.rest)) {
		t.Fatalf("P11.1: Standard of %v: %v, rest %v, %v, not %v %v %v, rest %v", text(p), text(s), text(rest), code, want.a, want.b, want.c, want.rest)
	}
	if !prob.Right(s) {
		t.Fatalf("P11.3: the standard form of %v isn't right: %v", text(p), text(s))
	}
	both := struct {
		S    api.Std
		Rest api.Rat
	}{s, rest}
	wantOwn(t, &both, "Standard")
}

// TestStandardOfTheExample: the least of x, where x is at least 2, from 0 on.
func TestStandardOfTheExample(t *testing.T) {
	p := api.Lp{Cost: row(1), Lo: row(0), Hi: row(0), Open: []bool{true}, Rows: []api.Row{{Coef: row(1), Sense: api.AtLeast, Rhs: of(2, 1)}}}
	s, rest, code := prob.Standard(p)
	if text(s) != "A [1 -1] B [2] C [1 0]" || !same(rest, of(0, 1)) || code != api.OK {
		t.Errorf("P11.1: %v, rest %v, %v", text(s), text(rest), code)
	}
}

func TestStandardByHand(t *testing.T) {
	p := sample() // less its Lo: x + 1, y, z - 5
	s, rest, code := prob.Standard(p)
	want := "A [1 1 0 1 0 0 0][-2 1 -1 0 0 0 0][0 3 -2 0 -1 0 0][1 0 0 0 0 1 0][0 0 1 0 0 0 1] B [5 4 21/2 3 2] C [1 -2 3 0 0 0 0]"
	if text(s) != want || !same(rest, of(14, 1)) || code != api.OK {
		t.Errorf("P11.1: %v, rest %v, %v", text(s), text(rest), code)
	}
	p.Rows[0].Rhs, p.Rows[2].Rhs = of(-2, 1), of(-21, 2) // below 0 is turned: the column of a sense, too
	s, _, _ = prob.Standard(p)
	want = "A [-1 -1 0 -1 0 0 0][-2 1 -1 0 0 0 0][0 -3 2 0 1 0 0][1 0 0 0 0 1 0][0 0 1 0 0 0 1] B [1 4 1/2 3 2] C [1 -2 3 0 0 0 0]"
	if text(s) != want {
		t.Errorf("P11.1: %v", text(s))
	}
	p.Rows[0].Rhs, p.Rows[2].Rhs = of(-1, 1), of(-10, 1) // 0 isn't
	s, _, _ = prob.Standard(p)
	want = "A [1 1 0 1 0 0 0][-2 1 -1 0 0 0 0][0 3 -2 0 -1 0 0][1 0 0 0 0 1 0][0 0 1 0 0 0 1] B [0 4 0 3 2] C [1 -2 3 0 0 0 0]"
	if text(s) != want {
		t.Errorf("P11.1: %v", text(s))
	}
}

// shapes are all senses of up to m rows, by all of up to n variables, open or not.
func shapes(n, m int, do func(senses []int, open []bool)) {
	var senses [][]int
	for rows, all := 0, 1; rows <= m; rows, all = rows+1, all*3 {
		for k := range all {
			var list []int
			for range rows {
				list = append(list, k%3)
				k /= 3
			}
			senses = append(senses, list)
		}
	}
	for vars := 1; vars <= n; vars++ {
		for k := range 1 << vars {
			open := make([]bool, vars)
			for j := range open {
				open[j] = k>>j&1 == 1
			}
			for _, list := range senses {
				do(list, open)
			}
		}
	}
}

func TestStandardOfAllShapes(t *testing.T) {
	d := dice(31)
	shapes(3, 4, func(senses []int, open []bool) {
		wantStandard(t, d.problem(len(open), senses, open, d.short))
		wantStandard(t, d.problem(len(open), senses, open, d.kind))
	})
}

func TestStandardOfChance(t *testing.T) {
	d := dice(32)
	for range 100 {
		wantStandard(t, d.any(24, 24, d.short))
		wantStandard(t, d.any(8, 8, d.kind))
	}
}

// TestStandardOfTheGreatest: it has 48 rows, and 72 columns.
func TestStandardOfTheGreatest(t *testing.T) {
	d := dice(33)
	p := d.greatest(d.short)
	wantStandard(t, p)
	wantStandard(t, d.greatest(d.kind))
	s, _, _ := prob.Standard(p)
	if len(s.A) != 48 || len(s.B) != 48 || len(s.C) != 72 {
		t.Errorf("P11.1: %v rows, %v columns", len(s.A), len(s.C))
	}
}

// TestStandardWithoutRows: each variable is open, and no row is there.
func TestStandardWithoutRows(t *testing.T) {
	s, rest, code := prob.Standard(api.Lp{Cost: row(3, 4), Lo: row(5, -6), Hi: row(0, 0), Open: []bool{true, true}})
	if text(s) != "A  B [] C [3 4]" || !same(rest, of(-9, 1)) || code != api.OK || !prob.Right(s) {
		t.Errorf("P11.1: %v, rest %v, %v", text(s), text(rest), code)
	}
}

// TestStandardOfOneMemory: what is handed in may be one row at all places.
func TestStandardOfOneMemory(t *testing.T) {
	one := row(-2, 5)
	p := api.Lp{Cost: one, Lo: one, Hi: one, Open: make([]bool, 2), Rows: []api.Row{{Coef: one, Sense: api.AtMost, Rhs: one[0]}, {Coef: one, Sense: api.AtLeast, Rhs: one[1]}}}
	want := formOf(p)
	s, rest, code := prob.Standard(p)
	if code != api.OK || !slices.EqualFunc(s.A, want.a, sameRow) || !sameRow(s.B, want.b) || !sameRow(s.C, want.c) || !same(rest, of(29, 1)) {
		t.Fatalf("P11.1: %v, rest %v, %v", text(s), text(rest), code)
	}
	both := struct {
		S    api.Std
		Rest api.Rat
	}{s, rest}
	wantOwn(t, &both, "Standard")
	if text(one) != "[-2 5]" {
		t.Errorf("rule 3: what was handed in is now %v", text(one))
	}
}
