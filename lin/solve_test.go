package lin_test

import (
	"math/big"
	"slices"
	"testing"

	"heijunka/api"
	"heijunka/lin"
)

// without is a list without its element i.
func without[T any](list []T, i int) []T {
	return slices.Delete(slices.Clone(list), i, i+1)
}

// determinant is that of a square table, row by row.
func determinant(t [][]*big.Rat) *big.Rat {
	sum := big.NewRat(1, 1)
	if len(t) == 0 {
		return sum
	}
	sum.SetInt64(0)
	for c, x := range t[0] {
		if x.Sign() == 0 {
			continue
		}
		var rest [][]*big.Rat
		for _, row := range t[1:] {
			rest = append(rest, without(row, c))
		}
		y := determinant(rest)
		y.Mul(y, x)
		if c%2 == 1 {
			y.Neg(y)
		}
		sum.Add(sum, y)
	}
	return sum
}

// solved is the plain model's row for a square table, by Cramer's rule.
func solved(t [][]*big.Rat, b []*big.Rat) ([]*big.Rat, bool) {
	whole := determinant(t)
	if whole.Sign() == 0 {
		return nil, false
	}
	x := make([]*big.Rat, len(b))
	for c := range x {
		other := make([][]*big.Rat, len(t))
		for i, row := range t {
			other[i] = slices.Clone(row)
			other[i][c] = b[i]
		}
		x[c] = new(big.Rat).Quo(determinant(other), whole)
	}
	return x, true
}

// wantSolve holds Solve of a square table against the plain model, and tells whether there is just one row.
func wantSolve(t *testing.T, table [][]api.Rat, b []api.Rat) bool {
	t.Helper()
	want, one := solved(bigTable(table), bigRow(b))
	l, m := lend(table...), lend(b)
	got, ok := lin.Solve(l.rows, m.rows[0])
	l.takeBack(t)
	m.takeBack(t)
	if ok != one {
		t.Fatalf("P10.3: Solve of %v and %v: %v", table, b, ok)
	}
	if ok {
		wantFulfilled(t, table, b, got)
	}
	wantRow(t, got, want, "P10.3: Solve", table, b)
	return ok
}

func wantFulfilled(t *testing.T, table [][]api.Rat, b, x []api.Rat) {
	t.Helper()
	for i, row := range table {
		if d, ok := lin.Dot(row, x); !ok || bigRat(d).Cmp(bigRat(b[i])) != 0 {
			t.Fatalf("P10.4: row %v of %v by %v: %v, not %v", i, table, x, d, b[i])
		}
	}
}

func wantNoSolve(t *testing.T, table [][]api.Rat, b []api.Rat) {
	t.Helper()
	l, m := lend(table...), lend(b)
	got, ok := lin.Solve(l.rows, m.rows[0])
	l.takeBack(t)
	m.takeBack(t)
	if ok || len(got) != 0 {
		t.Fatalf("P10.3: Solve of %v and %v: %v %v", table, b, got, ok)
	}
}

func TestSolveExamples(t *testing.T) {
	x, ok := lin.Solve([][]api.Rat{row(2, 1), row(1, 1)}, row(3, 2))
	if !ok || !sameRow(x, row(1, 1)) {
		t.Errorf("P10.3: %v %v", x, ok)
	}
	x, ok = lin.Solve([][]api.Rat{row(0, 3), row(2, -1)}, row(1, 0))
	if !ok || !sameRow(x, texts(t, "1/6", "1/3")) {
		t.Errorf("P10.3: %v %v", x, ok)
	}
}

func TestSolveOfNothing(t *testing.T) {
	for _, table := range [][][]api.Rat{nil, {}, cut(row(1), 1)[:0]} {
		for _, b := range [][]api.Rat{nil, {}, row(1)[:0]} {
			if x, ok := lin.Solve(table, b); !ok || len(x) != 0 {
				t.Errorf("P10.3: Solve of nothing: %v %v", x, ok)
			}
		}
		wantNoSolve(t, table, row(0))
		wantNoSolve(t, table, row(1, 2))
	}
}

func TestSolveOfOne(t *testing.T) {
	for _, x := range kinds() {
		for _, b := range kinds() {
			wantSolve(t, [][]api.Rat{{x}}, []api.Rat{b})
		}
	}
}

func TestSolveOfAllOfTwo(t *testing.T) {
	some := []api.Rat{of(0, 1), of(1, 1), of(-1, 1), of(2, 3), {Num: plus(6), Den: plus(4)}, {Num: plus(1)}}
	against := lists(2, texts(t, "0", "-2", "1/2"))
	for _, list := range lists(4, some) {
		for _, b := range against {
			wantSolve(t, cut(list, 2), b)
		}
	}
}

func TestSolveOfAllOfThree(t *testing.T) {
	some := row(0, 1, -2)
	b := texts(t, "3", "0", "-1/2")
	for _, list := range lists(9, some) {
		wantSolve(t, cut(list, 3), b)
	}
}

func TestSolveOfAllKinds(t *testing.T) {
	d := dice(31)
	for n := 2; n <= 6; n++ {
		for _, one := range []func() api.Rat{d.kind, d.short} {
			for range 40 {
				wantSolve(t, d.table(n, n, one), d.row(n, one))
			}
		}
	}
}

// Where each variable stands alone in a row, in whatever order, rows must change places.
func TestSolveOfRowsInAnyOrder(t *testing.T) {
	unit := [][]api.Rat{row(2, 0, 0, 0), row(0, 3, 0, 0), row(0, 0, -5, 0), row(0, 0, 0, 7)}
	for _, order := range shapes(4, 3) {
		if len(order) != 4 {
			continue
		}
		var table [][]api.Rat
		for _, i := range order {
			table = append(table, unit[i])
		}
		wantSolve(t, table, row(1, 2, 3, 4))
	}
}

// A table that isn't square, or that b isn't as long as, is solved by nothing, also where its rows would do.
func TestSolveOfOtherShapes(t *testing.T) {
	for _, shape := range shapes(4, 4) {
		var table [][]api.Rat
		for i, n := range shape {
			line := row(1, 1, 1, 1)
			line[min(i, 3)] = of(5, 1)
			table = append(table, line[:n])
		}
		for k := range 6 {
			if lin.Rect(table, len(table)) && k == len(table) {
				if !wantSolve(t, table, row(1, 2, 3, 4)[:k]) {
					t.Errorf("P10.3: %v is to have one row", table)
				}
				continue
			}
			wantNoSolve(t, table, make([]api.Rat, k))
			wantNoSolve(t, table, row(1, 2, 3, 4, 5)[:k])
		}
	}
}

// mixed is a table that just one row solves for each b: 1 stands in its diagonal, 0 on one side of it, and its rows, and columns, are mixed then.
func mixed(d *dice, n int) [][]api.Rat {
	table := make([][]api.Rat, n)
	for i := range table {
		table[i] = append(make([]api.Rat, i), d.row(n-i, d.short)...)
		table[i][i] = of(1, 1)
	}
	for range 3 * n {
		i, k := d.below(n), d.below(n)
		if i == k {
			continue
		}
		table[i], _ = lin.AddTimes(table[i], table[k], of(int64(d.below(3)-1), 1))
		table[i], table[k] = table[k], table[i]
	}
	return table
}

// times is what a table's rows by x are.
func times(table [][]api.Rat, x []api.Rat) []api.Rat {
	b := make([]api.Rat, len(table))
	for i, row := range table {
		b[i] = ratOf(dot(bigRow(row), bigRow(x)))
	}
	return b
}

func TestSolveOfGreatTables(t *testing.T) {
	d := dice(32)
	for _, n := range []int{8, 13, 24, 32} {
		for range 3 {
			table, x := mixed(&d, n), d.row(n, d.short)
			b := times(table, x)
			got, ok := lin.Solve(table, b)
			if !ok {
				t.Fatalf("P10.3: Solve of %v rows: false", n)
			}
			wantFulfilled(t, table, b, got)
			wantRow(t, got, bigRow(x), "P10.3: Solve", n)
		}
	}
}

// Rows of which one is made of others are fulfilled by none, or by many.
func TestSolveOfRowsThatHangTogether(t *testing.T) {
	d := dice(33)
	for _, n := range []int{2, 3, 5, 9, 17} {
		for range 10 {
			table := mixed(&d, n)
			i := d.below(n)
			made := make([]api.Rat, n)
			for k, line := range table {
				if k != i {
					made, _ = lin.AddTimes(made, line, d.short())
				}
			}
			table[i] = made
			b := times(table, d.row(n, d.short))
			wantNoSolve(t, table, b)
			b[i] = ratOf(new(big.Rat).Add(bigRat(b[i]), big.NewRat(1, 1)))
			wantNoSolve(t, table, b)
		}
	}
}

// A column that is 0, or made of others, leaves its variable open.
func TestSolveOfColumnsThatHangTogether(t *testing.T) {
	d := dice(34)
	for _, n := range []int{1, 2, 4, 7} {
		for c := range n {
			table := mixed(&d, n)
			for _, line := range table {
				line[c] = api.Rat{}
				if n > 1 {
					line[c] = line[(c+1)%n]
				}
			}
			wantNoSolve(t, table, times(table, d.row(n, d.short)))
			wantNoSolve(t, table, make([]api.Rat, n))
			for _, line := range table {
				line[c] = of(0, 1)
			}
			wantNoSolve(t, table, make([]api.Rat, n))
		}
	}
}

// Hilbert's tables are solved by great numbers, which rounding would not find.
func TestSolveOfHilbert(t *testing.T) {
	for _, n := range []int{3, 8, 15} {
		table := make([][]api.Rat, n)
		for i := range table {
			for k := range n {
				table[i] = append(table[i], of(1, int64(i+k+1)))
			}
		}
		for c := range n {
			b := make([]api.Rat, n)
			b[c] = of(1, 1)
			x, ok := lin.Solve(table, b)
			if !ok {
				t.Fatalf("P10.3: Hilbert's table of %v: false", n)
			}
			wantFulfilled(t, table, b, x)
			if slices.ContainsFunc(x, func(a api.Rat) bool { return !bigRat(a).IsInt() }) {
				t.Errorf("P10.3: Hilbert's table of %v: %v", n, x)
			}
		}
	}
}

func TestSolveOfOneMemory(t *testing.T) {
	a := row(2, 3)
	wantNoSolve(t, [][]api.Rat{a, a}, a)
	table := [][]api.Rat{row(1, 4), a}
	x, ok := lin.Solve(table, table[1])
	want, _ := solved(bigTable(table), bigRow(a))
	wantRow(t, x, want, "P10.3: Solve", ok, table)
	if !sameRows(table, [][]api.Rat{row(1, 4), row(2, 3)}) {
		t.Errorf("rule 3: what was handed in was changed: %v", table)
	}
}
