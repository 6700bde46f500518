package prob_test

import (
	"fmt"
	"math"
	"slices"
	"testing"

	"heijunka/api"
)

// numbers are the places of all numbers of a problem.
func numbers(p *api.Lp) []*api.Rat {
	var list []*api.Rat
	for _, l := range [][]api.Rat{p.Cost, p.Lo, p.Hi} {
		for j := range l {
			list = append(list, &l[j])
		}
	}
	for i := range p.Rows {
		for j := range p.Rows[i].Coef {
			list = append(list, &p.Rows[i].Coef[j])
		}
		list = append(list, &p.Rows[i].Rhs)
	}
	return list
}

// sample is a problem of three variables, one of them open, and a row of each sense.
func sample() api.Lp {
	return api.Lp{
		Cost: row(1, -2, 3), Lo: row(-1, 0, 5), Hi: row(2, 9, 7), Open: []bool{false, true, false},
		Rows: []api.Row{
			{Coef: row(1, 1, 0), Sense: api.AtMost, Rhs: of(4, 1)},
			{Coef: row(2, -1, 1), Sense: api.Equal, Rhs: of(-1, 1)},
			{Coef: row(0, 3, -2), Sense: api.AtLeast, Rhs: of(1, 2)},
		},
	}
}

func TestMayOfSizes(t *testing.T) {
	d := dice(11)
	for n := range 28 {
		for _, m := range []int{0, 1, 2, 23, 24, 25, 26, 40} {
			p := d.problem(n, make([]int, m), make([]bool, n), d.short)
			wantMay(t, p, n >= 1 && n <= 24 && m <= 24, fmt.Sprint(n, " variables, ", m, " rows"))
		}
	}
	wantMay(t, api.Lp{}, false, "nothing at all")
	wantMay(t, d.problem(200, nil, make([]bool, 200), d.short), false, "200 variables")
	wantMay(t, d.problem(1, make([]int, 500), make([]bool, 1), d.short), false, "500 rows")
}

func TestMayOfLengths(t *testing.T) {
	for _, n := range []int{0, 1, 2, 4, 5, 24, 25} { // sample has 3
		more := dice(5)
		list := more.row(n, more.short)
		for what, change := range map[string]func(*api.Lp){
			"Cost":   func(p *api.Lp) { p.Cost = list },
			"Lo":     func(p *api.Lp) { p.Lo = list },
			"Hi":     func(p *api.Lp) { p.Hi = list },
			"Open":   func(p *api.Lp) { p.Open = make([]bool, n) },
			"Coef 0": func(p *api.Lp) { p.Rows[0].Coef = list },
			"Coef 1": func(p *api.Lp) { p.Rows[1].Coef = list },
			"Coef 2": func(p *api.Lp) { p.Rows[2].Coef = list },
			"all but Cost": func(p *api.Lp) {
				p.Lo, p.Hi, p.Open, p.Rows = list, list, make([]bool, n), nil
			},
			"all but Open": func(p *api.Lp) { p.Cost, p.Lo, p.Hi, p.Rows = list, list, list, nil },
			"all but Rows": func(p *api.Lp) { p.Cost, p.Lo, p.Hi, p.Open = list, list, list, make([]bool, n) },
		} {
			p := sample()
			change(&p)
			wantMay(t, p, false, fmt.Sprint(what, " of ", n))
		}
	}
	p := sample()
	p.Open = p.Open[:2:3]
	wantMay(t, p, false, "Open with the rest in its spare room")
}

func TestMayOfSenses(t *testing.T) {
	for _, sense := range []int{math.MinInt, -3, -2, -1, 0, 1, 2, 3, 4, 1 << 8, 1<<8 + 1, 1 << 32, 1<<32 + 2, math.MaxInt} {
		for i := range 3 {
			p := sample()
			p.Rows[i].Sense = sense
			wantMay(t, p, sense >= 0 && sense <= 2, fmt.Sprint("sense ", sense, " of row ", i))
		}
	}
}

func TestMayOfNumbers(t *testing.T) {
	p := sample()
	for i := range numbers(&p) {
		for _, x := range wrong() {
			q := sample()
			*numbers(&q)[i] = x
			wantMay(t, q, false, fmt.Sprint("number ", i, " is ", text(x)))
		}
		for _, x := range rights() {
			q := sample()
			q.Open = []bool{true, true, true} // the bounds may be as they like, so
			*numbers(&q)[i] = x
			wantMay(t, q, true, fmt.Sprint("number ", i, " is ", text(x)))
		}
	}
	for i := range numbers(&p) { // of an Open variable the Hi must be one, too
		q := sample()
		q.Open = []bool{true, true, true}
		*numbers(&q)[i] = api.Rat{Num: plus(1)}
		wantMay(t, q, false, fmt.Sprint("number ", i, " of an open one"))
	}
}

func TestMayOfBounds(t *testing.T) {
	list := rights()
	for j := range 3 {
		for _, lo := range list {
			for _, hi := range list {
				for _, open := range []bool{false, true} {
					p := sample()
					p.Lo[j], p.Hi[j], p.Open[j] = lo, hi, open
					may := open || bigRat(hi).Cmp(bigRat(lo)) >= 0
					wantMay(t, p, may, fmt.Sprint("variable ", j, " from ", text(lo), " to ", text(hi), ", ", open))
				}
			}
		}
	}
	tiny := api.Rat{Num: minus(1), Den: plus(0, 0, 1)}
	p := sample()
	p.Lo[2], p.Hi[2] = of(0, 1), tiny
	wantMay(t, p, false, "just below")
	p.Lo[2], p.Hi[2] = tiny, tiny
	wantMay(t, p, true, "just as high")
}

// TestMayOfChance: problems of all shapes may be, till one number of one of them may not.
func TestMayOfChance(t *testing.T) {
	d := dice(21)
	for range 60 {
		p := d.any(24, 24, d.kind)
		wantMay(t, p, true, "chance")
		list := numbers(&p)
		*list[d.below(len(list))] = wrong()[d.below(len(wrong()))]
		wantMay(t, p, false, "chance, but one number")
	}
	wantMay(t, d.greatest(d.kind), true, "the greatest")
}

// TestMayOfOneFault: of the greatest problem that there is each part but one is right.
func TestMayOfOneFault(t *testing.T) {
	d := dice(22)
	p := d.greatest(d.short)
	for i := range p.Rows {
		q := lendLp(p)
		q.Rows[i].Sense = 3
		wantMay(t, q, false, "one sense")
		q = lendLp(p)
		q.Rows[i].Coef = slices.Clone(q.Rows[i].Coef[:23])
		wantMay(t, q, false, "one row is short")
		q.Rows[i].Coef = append(lendRow(p.Rows[i].Coef), of(1, 1))
		wantMay(t, q, false, "one row is long")
	}
	for j := range p.Cost {
		q := lendLp(p)
		q.Lo[j], q.Hi[j] = of(1, 1), of(0, 1)
		wantMay(t, q, false, "one variable's bounds")
		q.Open[j] = true
		wantMay(t, q, true, "one variable's bounds, but it is open")
	}
}
