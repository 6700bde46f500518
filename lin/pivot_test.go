package lin_test

import (
	"math"
	"math/big"
	"slices"
	"testing"

	"heijunka/api"
	"heijunka/lin"
)

// pivoted is the plain model's table: by each place's own cross of four numbers. Nothing, if there is no such place, or 0 stands there.
func pivoted(t [][]*big.Rat, r, c int) ([][]*big.Rat, bool) {
	if r < 0 || r >= len(t) || c < 0 || c >= len(t[r]) || t[r][c].Sign() == 0 {
		return nil, false
	}
	out := make([][]*big.Rat, len(t))
	for i, row := range t {
		for k, x := range row {
			y := new(big.Rat).Quo(t[r][k], t[r][c])
			if i != r {
				y.Sub(x, y.Mul(y, row[c]))
			}
			out[i] = append(out[i], y)
		}
	}
	return out, true
}

// wantPivot holds Pivot of a table of rows of one length against the plain model.
func wantPivot(t *testing.T, table [][]api.Rat, r, c int) {
	t.Helper()
	want, may := pivoted(bigTable(table), r, c)
	l := lend(table...)
	got, ok := lin.Pivot(l.rows, r, c)
	l.takeBack(t)
	if ok != may {
		t.Fatalf("P10.2: Pivot of %v at %v, %v: %v", table, r, c, ok)
	}
	wantRows(t, got, want, "P10.2: Pivot", table, r, c)
}

func wantNoPivot(t *testing.T, table [][]api.Rat, r, c int) {
	t.Helper()
	l := lend(table...)
	got, ok := lin.Pivot(l.rows, r, c)
	l.takeBack(t)
	if ok || len(got) != 0 {
		t.Fatalf("P10.2: Pivot of %v at %v, %v: %v %v", table, r, c, got, ok)
	}
}

// places are all places near those of a table of m rows of n.
func places(m, n int) [][2]int {
	var list [][2]int
	for r := -2; r < m+2; r++ {
		for c := -2; c < n+2; c++ {
			list = append(list, [2]int{r, c})
		}
	}
	return list
}

func TestPivotExample(t *testing.T) {
	got, ok := lin.Pivot([][]api.Rat{row(1, 2, 3), row(4, 5, 6), row(7, 8, 10)}, 1, 0)
	want := [][]api.Rat{texts(t, "0", "3/4", "3/2"), texts(t, "1", "5/4", "3/2"), texts(t, "0", "-3/4", "-1/2")}
	if !ok || !sameRows(got, want) {
		t.Errorf("P10.2: %v %v", got, ok)
	}
}

// lists are all lists of so many of these.
func lists(n int, of []api.Rat) [][]api.Rat {
	out := [][]api.Rat{nil}
	for range n {
		var longer [][]api.Rat
		for _, list := range out {
			for _, x := range of {
				longer = append(longer, append(slices.Clone(list), x))
			}
		}
		out = longer
	}
	return out
}

// cut makes rows of n of a list.
func cut(list []api.Rat, n int) [][]api.Rat {
	return slices.Collect(slices.Chunk(list, n))
}

func TestPivotOfAllSmallTables(t *testing.T) {
	some := []api.Rat{of(0, 1), of(1, 1), of(-3, 2), {Num: plus(4), Den: plus(6)}, {Num: plus(1)}}
	for _, list := range lists(4, some) {
		for _, n := range []int{1, 2, 4} {
			for _, at := range places(4/n, n) {
				wantPivot(t, cut(list, n), at[0], at[1])
			}
		}
	}
}

func TestPivotOfAllKinds(t *testing.T) {
	d := dice(21)
	for m := 1; m <= 6; m++ {
		for n := 1; n <= 7; n++ {
			for _, one := range []func() api.Rat{d.kind, d.short} {
				table := d.table(m, n, one)
				for _, at := range places(m, n) {
					wantPivot(t, table, at[0], at[1])
				}
			}
		}
	}
}

// Tables are pivoted one behind the other, so that numbers grow, and 0 comes and goes.
func TestPivotAgainAndAgain(t *testing.T) {
	d := dice(22)
	for range 30 {
		table := d.table(5, 8, d.short)
		for range 12 {
			r, c := d.below(5), d.below(8)
			wantPivot(t, table, r, c)
			if next, ok := lin.Pivot(table, r, c); ok {
				table = next
			}
		}
	}
}

// Where 0 stands, however it is written, none is made.
func TestPivotAtZero(t *testing.T) {
	for _, x := range zeros() {
		wantNoPivot(t, [][]api.Rat{{x}}, 0, 0)
		wantNoPivot(t, [][]api.Rat{row(1, 2), {of(3, 1), x}}, 1, 1)
		wantNoPivot(t, [][]api.Rat{{x, of(3, 1)}, row(1, 2)}, 0, 0)
		wantPivot(t, [][]api.Rat{{x, of(3, 1)}, row(1, 2)}, 0, 1)
	}
}

func TestPivotWithoutPlace(t *testing.T) {
	for _, far := range []int{math.MinInt, math.MinInt32, -1, 2, 3, math.MaxInt32, math.MaxInt} {
		for _, other := range []int{0, 1, far} {
			wantNoPivot(t, [][]api.Rat{row(1, 2), row(3, 4)}, far, other)
			wantNoPivot(t, [][]api.Rat{row(1, 2), row(3, 4)}, other, far)
		}
	}
	for _, table := range [][][]api.Rat{nil, {}, {nil}, {{}, {}}, {row(1)[:0], nil}} {
		for _, at := range places(len(table), 0) {
			wantNoPivot(t, table, at[0], at[1])
		}
	}
}

// A table whose rows aren't of one length has no pivot at any place.
func TestPivotOfOtherRows(t *testing.T) {
	for _, shape := range shapes(4, 3) {
		var table [][]api.Rat
		for i, n := range shape {
			table = append(table, row(2, int64(3+i), 7)[:n])
		}
		one := len(slices.Compact(slices.Clone(shape))) <= 1
		for _, at := range places(len(table), 3) {
			if one {
				wantPivot(t, table, at[0], at[1])
			} else {
				wantNoPivot(t, table, at[0], at[1])
			}
		}
	}
	zero := [][]api.Rat{row(1, 0), row(0, 0, 0), row(0, 1)}
	wantNoPivot(t, zero, 0, 0)
	wantNoPivot(t, zero, 2, 1)
	wantNoPivot(t, zero, 1, 2)
}

// One row's memory may be a table's twice.
func TestPivotOfOneMemory(t *testing.T) {
	a := texts(t, "2", "-1/3", "0", "5")
	table := [][]api.Rat{a, a, a}
	for r := range table {
		for c := range a {
			want, may := pivoted(bigTable(table), r, c)
			got, ok := lin.Pivot(table, r, c)
			if ok != may {
				t.Errorf("P10.2: Pivot of one row, three times, at %v, %v: %v", r, c, ok)
			}
			wantRows(t, got, want, "P10.2: Pivot", table, r, c)
		}
	}
	if !sameRow(a, texts(t, "2", "-1/3", "0", "5")) {
		t.Errorf("rule 3: what was handed in was changed: %v", a)
	}
}

func TestPivotOfLongNumbers(t *testing.T) {
	d := dice(23)
	long := func() api.Rat {
		return api.Rat{Num: api.Int{Neg: d.below(2) == 0, Mag: d.size(1 + d.below(30))}, Den: api.Int{Mag: d.size(1 + d.below(9))}}
	}
	for range 10 {
		table := d.table(3, 4, long)
		wantPivot(t, table, d.below(3), d.below(4))
	}
	wantPivot(t, d.table(64, 80, d.short), 63, 79)
	wantPivot(t, d.table(65, 145, d.kind), 0, 0)
}

// A pivot's column is 0, but 1 at its row; pivoted there again, nothing changes.
func TestPivotTwice(t *testing.T) {
	d := dice(24)
	for range 200 {
		m, n := 1+d.below(5), 1+d.below(6)
		table := d.table(m, n, d.kind)
		r, c := d.below(m), d.below(n)
		once, ok := lin.Pivot(table, r, c)
		if !ok {
			continue
		}
		for i, line := range once {
			want := of(0, 1)
			if i == r {
				want = of(1, 1)
			}
			if !same(line[c], want) {
				t.Fatalf("P10.4: %v at %v, %v, pivoted: %v in row %v", table, r, c, line[c], i)
			}
		}
		twice, ok := lin.Pivot(once, r, c)
		if !ok || !sameRows(once, twice) {
			t.Fatalf("P10.4: %v at %v, %v, pivoted twice: %v, not %v", table, r, c, twice, once)
		}
	}
}
