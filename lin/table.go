package lin

import (
	"slices"

	"heijunka/api"
	"heijunka/ratio"
)

// Pivot: a table with 0 but at one row of a column.
func Pivot(t [][]api.Rat, r, c int) ([][]api.Rat, bool) {
	if r < 0 || r >= len(t) || c < 0 || c >= len(t[r]) {
		return nil, false
	}
	if !Rect(t, len(t[r])) || isZero(t[r][c]) {
		return nil, false
	}
	return pivoted(t, r, c), true
}

// pivoted is the table t, with 0 but at row r of column c; no 0 stands there in t.
func pivoted(t [][]api.Rat, r, c int) [][]api.Rat {
	unit := divided(t[r], t[r][c])
	out := make([][]api.Rat, len(t))
	for i, row := range t {
		if i == r {
			out[i] = unit
			continue
		}
		out[i], _ = AddTimes(row, unit, ratio.Sub(zero(), row[c]))
	}
	return out
}

// divided is a row by k, that isn't 0.
func divided(row []api.Rat, k api.Rat) []api.Rat {
	out := make([]api.Rat, len(row))
	for i, x := range row {
		out[i], _ = ratio.Div(x, k)
	}
	return out
}

// Solve: the one row that fulfils all.
func Solve(t [][]api.Rat, b []api.Rat) ([]api.Rat, bool) {
	rows, ok := pairs(t, b, func(row []api.Rat, x api.Rat) []api.Rat {
		return append(slices.Clone(row), x)
	})
	if !ok || !Rect(t, len(t)) {
		return nil, false
	}
	for i := range rows {
		r, ok := leading(rows, i)
		if !ok { // this column is made of those ahead of it: either nothing fulfils all rows, or more than one does
			return nil, false
		}
		rows[i], rows[r] = rows[r], rows[i]
		rows = behindFirst(pivoted(rows, i, 0))
	}
	return slices.Concat(rows...), true // of each row there is left what its variable must be
}

// leading is the first row, from one on, that begins with something else than 0, and whether there is one.
func leading(rows [][]api.Rat, from int) (int, bool) {
	for r := from; r < len(rows); r++ {
		if !isZero(rows[r][0]) {
			return r, true
		}
	}
	return 0, false
}

// behindFirst is each row without its first element.
func behindFirst(rows [][]api.Rat) [][]api.Rat {
	for i, row := range rows {
		rows[i] = row[1:]
	}
	return rows
}
