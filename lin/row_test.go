package lin_test

import (
	"math"
	"math/big"
	"testing"

	"heijunka/api"
	"heijunka/lin"
	"heijunka/whole"
)

// dot is the plain model's sum of the products of rows of one length.
func dot(a, b []*big.Rat) *big.Rat {
	sum := new(big.Rat)
	for i, x := range a {
		sum.Add(sum, new(big.Rat).Mul(x, b[i]))
	}
	return sum
}

// addTimes is the plain model's a and k times b, of rows of one length.
func addTimes(a, b []*big.Rat, k *big.Rat) []*big.Rat {
	out := make([]*big.Rat, len(a))
	for i, x := range a {
		y := new(big.Rat).Mul(b[i], k)
		out[i] = y.Add(y, x)
	}
	return out
}

func wantDot(t *testing.T, a, b []api.Rat) {
	t.Helper()
	l := lend(a, b)
	got, ok := lin.Dot(l.rows[0], l.rows[1])
	l.takeBack(t)
	if !ok {
		t.Fatalf("P10.1: Dot of %v and %v: false", a, b)
	}
	wantRow(t, []api.Rat{got}, []*big.Rat{dot(bigRow(a), bigRow(b))}, "P10.1: Dot", a, b)
}

func wantAddTimes(t *testing.T, a, b []api.Rat, k api.Rat) {
	t.Helper()
	l := lend(a, b, []api.Rat{k})
	got, ok := lin.AddTimes(l.rows[0], l.rows[1], l.rows[2][0])
	l.takeBack(t)
	if !ok {
		t.Fatalf("P10.1: AddTimes of %v, %v, %v: false", a, b, k)
	}
	wantRow(t, got, addTimes(bigRow(a), bigRow(b), bigRat(k)), "P10.1: AddTimes", a, b, k)
}

func TestExamplesOfRows(t *testing.T) {
	d, ok := lin.Dot(texts(t, "1/2", "-2/3", "0", "7"), texts(t, "4", "3/4", "9", "1/7"))
	if !ok || !same(d, of(5, 2)) {
		t.Errorf("P10.1: Dot: %v %v", d, ok)
	}
	a, ok := lin.AddTimes(texts(t, "1", "1/2", "0", "-3"), texts(t, "2", "-1/4", "5", "0"), of(2, 3))
	if !ok || !sameRow(a, texts(t, "7/3", "1/3", "10/3", "-3")) {
		t.Errorf("P10.1: AddTimes: %v %v", a, ok)
	}
}

// Rows of one element have each kind of fraction in each place.
func TestRowsOfOne(t *testing.T) {
	for _, x := range kinds() {
		for _, y := range kinds() {
			wantDot(t, []api.Rat{x}, []api.Rat{y})
			for _, k := range kinds() {
				wantAddTimes(t, []api.Rat{x}, []api.Rat{y}, k)
			}
		}
	}
}

func TestRowsOfAnyLength(t *testing.T) {
	d := dice(11)
	for n := range 40 {
		for range 20 {
			wantDot(t, d.row(n, d.short), d.row(n, d.short))
			wantDot(t, d.row(n, d.kind), d.row(n, d.kind))
			wantAddTimes(t, d.row(n, d.short), d.row(n, d.short), d.short())
			wantAddTimes(t, d.row(n, d.kind), d.row(n, d.kind), d.kind())
		}
	}
}

// What comes to 0 on the way, or at the end, is plain, too.
func TestSumsThatComeToZero(t *testing.T) {
	for _, x := range others() {
		y := x
		y.Num.Neg = !y.Num.Neg
		wantDot(t, []api.Rat{x, y}, row(3, 3))
		wantDot(t, []api.Rat{x, x, y}, row(3, -3, 1))
		wantDot(t, []api.Rat{y, {}, x, x}, row(1, 5, 1, 1))
		wantAddTimes(t, []api.Rat{x, y}, []api.Rat{y, x}, of(1, 1))
		wantAddTimes(t, []api.Rat{x, y}, []api.Rat{x, y}, of(-1, 1))
	}
}

func TestRowsWithoutElements(t *testing.T) {
	for _, a := range [][]api.Rat{nil, {}, row(1, 2)[:0]} {
		for _, b := range [][]api.Rat{nil, {}, row(3)[:0]} {
			if d, ok := lin.Dot(a, b); !ok || !same(d, of(0, 1)) {
				t.Errorf("P10.1: Dot of nothing: %v %v", d, ok)
			}
			for _, k := range kinds() {
				if out, ok := lin.AddTimes(a, b, k); !ok || len(out) != 0 {
					t.Errorf("P10.1: AddTimes of nothing: %v %v", out, ok)
				}
			}
		}
	}
}

// Rows of other lengths are none for each other, also where room, or zeros, would make up for it.
func TestRowsOfOtherLengths(t *testing.T) {
	d := dice(12)
	for n := range 7 {
		for m := range 7 {
			if n == m {
				continue
			}
			for _, one := range []func() api.Rat{d.short, d.kind, func() api.Rat { return of(0, 1) }} {
				l := lend(d.row(n, one), d.row(m, one))
				if got, ok := lin.Dot(l.rows[0], l.rows[1]); ok || !same(got, of(0, 1)) {
					t.Errorf("P10.1: Dot of %v and %v elements: %v %v", n, m, got, ok)
				}
				for _, k := range []api.Rat{{}, of(0, 1), of(1, 1), of(-2, 3)} {
					if got, ok := lin.AddTimes(l.rows[0], l.rows[1], k); ok || len(got) != 0 {
						t.Errorf("P10.1: AddTimes of %v and %v elements: %v %v", n, m, got, ok)
					}
				}
				l.takeBack(t)
			}
		}
	}
	long := d.row(300, d.short)
	if _, ok := lin.Dot(long, long[:299]); ok {
		t.Error("P10.1: Dot of 300 and 299 elements")
	}
	if _, ok := lin.AddTimes(long[:299], long, of(1, 1)); ok {
		t.Error("P10.1: AddTimes of 299 and 300 elements")
	}
}

// One row may be handed in twice, and k may be of its memory.
func TestRowsOfOneMemory(t *testing.T) {
	d := dice(13)
	for range 50 {
		l := lend(d.row(5, d.kind))
		a := l.rows[0]
		was := bigRow(a)
		square, ok := lin.Dot(a, a)
		wantRow(t, []api.Rat{square}, []*big.Rat{dot(was, was)}, "P10.1: Dot", ok, a)
		out, ok := lin.AddTimes(a, a, a[2])
		wantRow(t, out, addTimes(was, was, was[2]), "P10.1: AddTimes", ok, a)
		out, ok = lin.AddTimes(a[:4], a[1:], a[4])
		wantRow(t, out, addTimes(was[:4], was[1:], was[4]), "P10.1: AddTimes", ok, a)
		l.takeBack(t)
	}
}

func TestLongRows(t *testing.T) {
	d := dice(14)
	long := func() api.Rat {
		return api.Rat{Num: api.Int{Neg: d.below(2) == 0, Mag: d.size(1 + d.below(40))}, Den: api.Int{Mag: d.size(1 + d.below(9))}}
	}
	for range 20 {
		wantDot(t, d.row(6, long), d.row(6, long))
		wantAddTimes(t, d.row(6, long), d.row(6, long), long())
	}
	wantDot(t, d.row(1000, d.short), d.row(1000, d.short))
	wantAddTimes(t, d.row(1000, d.short), d.row(1000, d.short), d.short())
}

// shapes are all lists of at most so many lengths, from 0 to the greatest.
func shapes(most, greatest int) [][]int {
	list := [][]int{nil}
	for from := 0; most > 0; most-- {
		behind := len(list)
		for _, shape := range list[from:] {
			for n := range greatest + 1 {
				list = append(list, append(append([]int{}, shape...), n))
			}
		}
		from = behind
	}
	return list
}

func TestRect(t *testing.T) {
	for _, shape := range shapes(4, 3) {
		var table [][]api.Rat
		for _, n := range shape {
			table = append(table, make([]api.Rat, n, n+3))
		}
		for n := -2; n < 6; n++ {
			want := true
			for _, k := range shape {
				want = want && k == n
			}
			if got := lin.Rect(table, n); got != want {
				t.Errorf("P10.1: Rect of rows of %v, %v: %v", shape, n, got)
			}
		}
	}
}

func TestRectEdges(t *testing.T) {
	for _, n := range []int{math.MinInt, -1, 0, 1, math.MaxInt} {
		if !lin.Rect(nil, n) || !lin.Rect([][]api.Rat{}, n) {
			t.Errorf("P10.1: Rect of no rows, %v: false", n)
		}
		if got := lin.Rect([][]api.Rat{nil, {}}, n); got != (n == 0) {
			t.Errorf("P10.1: Rect of rows without elements, %v: %v", n, got)
		}
	}
	l := lend(kinds(), kinds(), kinds())
	if !lin.Rect(l.rows, len(kinds())) || lin.Rect(l.rows, len(kinds())+1) {
		t.Error("P10.1: Rect of rows of all kinds")
	}
	l.takeBack(t)
	one := []api.Rat{{Num: whole.Of(1)}}
	if !lin.Rect([][]api.Rat{one, one, one}, 1) {
		t.Error("P10.1: Rect of one row, three times")
	}
}
