package prob

import (
	"iter"

	"heijunka/api"
	"heijunka/lin"
	"heijunka/ratio"
	"heijunka/whole"
)

// column is a column of a standard form: a variable's, or one that makes a row an equation.
type column struct {
	variable int   // none: -1
	row      int   // the row in which unit stands; none: -1
	unit     int64 // 1, or -1
}

// columns are those of the standard form of p, that may be, in order.
func columns(p api.Lp) iter.Seq[column] {
	return func(yield func(column) bool) {
		for j, row := range endRows(p) {
			if !yield(column{j, row, 1}) {
				return
			}
		}
		for i, r := range p.Rows {
			if r.Sense != api.Equal && !yield(column{-1, i, slack(r.Sense)}) {
				return
			}
		}
		for _, row := range endRows(p) {
			if row >= 0 && !yield(column{-1, row, 1}) {
				return
			}
		}
	}
}

// endRows tells of each variable which row holds it to its end; -1 if it is Open.
func endRows(p api.Lp) []int {
	rows := make([]int, len(p.Open))
	next := len(p.Rows)
	for j, open := range p.Open {
		rows[j] = -1
		if !open {
			rows[j] = next
			next++
		}
	}
	return rows
}

// slack is what the column of a row of this sense has in it.
func slack(sense int) int64 {
	if sense == api.AtLeast {
		return -1
	}
	return 1
}

// in is what the column has in row i of the standard form of p.
func (c column) in(p api.Lp, i int) api.Rat {
	switch {
	case i == c.row:
		return api.Rat{Num: whole.Of(c.unit), Den: whole.Of(1)}
	case c.variable >= 0 && i < len(p.Rows):
		return ratio.Plain(p.Rows[i].Coef[c.variable])
	}
	return zero()
}

// cost is what the column costs.
func (c column) cost(p api.Lp) api.Rat {
	if c.variable >= 0 {
		return ratio.Plain(p.Cost[c.variable])
	}
	return zero()
}

// Standard: a problem's standard form, and its rest. Arg.
func Standard(p api.Lp) (api.Std, api.Rat, api.Code) {
	if !May(p) {
		return api.Std{}, zero(), api.Arg
	}
	s := api.Std{B: held(p)}
	s.A = make([][]api.Rat, len(s.B))
	for c := range columns(p) {
		s.C = append(s.C, c.cost(p))
		for i := range s.A {
			s.A[i] = append(s.A[i], c.in(p, i))
		}
	}
	turn(s)
	rest, _ := lin.Dot(p.Cost, p.Lo)
	return s, rest, api.OK
}

// held is what is held against the rows of the standard form of p, before any is turned.
func held(p api.Lp) []api.Rat {
	var list []api.Rat
	for _, r := range p.Rows {
		low, _ := lin.Dot(r.Coef, p.Lo)
		list = append(list, ratio.Sub(r.Rhs, low))
	}
	for j, open := range p.Open {
		if !open {
			list = append(list, ratio.Sub(p.Hi[j], p.Lo[j]))
		}
	}
	return list
}

// turn turns each row against which something below 0 is held to its opposite.
func turn(s api.Std) {
	for i, b := range s.B {
		if !isBelow(b) {
			continue
		}
		s.B[i] = opposite(b)
		for j, a := range s.A[i] {
			s.A[i][j] = opposite(a)
		}
	}
}

func opposite(x api.Rat) api.Rat {
	return ratio.Sub(zero(), x)
}

// Back: the variables that columns' numbers are. Arg.
func Back(p api.Lp, y []api.Rat) ([]api.Rat, api.Code) {
	if !May(p) {
		return nil, api.Arg
	}
	var x []api.Rat
	for c := range columns(p) {
		if len(y) == 0 {
			return nil, api.Arg
		}
		if c.variable >= 0 {
			x = append(x, ratio.Add(p.Lo[c.variable], y[0]))
		}
		y = y[1:]
	}
	if len(y) > 0 {
		return nil, api.Arg
	}
	return x, api.OK
}
