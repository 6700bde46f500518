package prob_test

import (
	"fmt"
	"testing"

	"heijunka/api"
	"heijunka/prob"
)

// stdOf is one in standard form of m rows and n columns.
func (d *dice) stdOf(m, n int, one func() api.Rat) api.Std {
	s := api.Std{C: d.row(n, one)}
	for range m {
		b := one()
		for bigRat(b).Sign() < 0 {
			b = one()
		}
		s.A, s.B = append(s.A, d.row(n, one)), append(s.B, b)
	}
	return s
}

func wantRight(t *testing.T, s api.Std, right bool, what string) {
	t.Helper()
	r, was := lendStd(s), lendStd(s)
	got := prob.Right(r)
	takeBack(t, &r, &was)
	if got != right {
		t.Fatalf("P11.1: Right is %v: %v: %v", got, what, text(s))
	}
}

func TestRightOfSizes(t *testing.T) {
	d := dice(41)
	for _, m := range []int{0, 1, 2, 24, 48, 63, 64, 65, 66, 80, 128} {
		for _, n := range []int{0, 1, 2, 24, 64, 72, 79, 80, 81, 82, 160} {
			s := d.stdOf(m, n, d.short)
			wantRight(t, s, m <= 64 && n <= 80, fmt.Sprint(m, " rows, ", n, " columns"))
		}
	}
	wantRight(t, api.Std{}, true, "nothing at all")
}

func TestRightOfLengths(t *testing.T) {
	d := dice(42)
	for m := range 5 {
		for n := range 5 {
			for k := range 7 {
				s := d.stdOf(m, n, d.kind)
				s.B = d.stdOf(k, 0, d.kind).B
				wantRight(t, s, k == m, fmt.Sprint(m, " rows, ", k, " in B"))
				s = d.stdOf(m, n, d.kind)
				s.C = d.row(k, d.kind)
				wantRight(t, s, k == n || m == 0, fmt.Sprint(n, " columns, ", k, " in C"))
				for i := range m {
					s = d.stdOf(m, n, d.kind)
					s.A[i] = d.row(k, d.kind)
					wantRight(t, s, k == n, fmt.Sprint(n, " columns, ", k, " in row ", i))
				}
			}
		}
	}
}

// places are those of all numbers of one in standard form.
func places(s *api.Std) []*api.Rat {
	var list []*api.Rat
	for _, l := range append([][]api.Rat{s.C, s.B}, s.A...) {
		for j := range l {
			list = append(list, &l[j])
		}
	}
	return list
}

func TestRightOfNumbers(t *testing.T) {
	d := dice(43)
	for _, size := range [][2]int{{0, 1}, {1, 0}, {1, 1}, {3, 2}, {2, 5}} {
		s := d.stdOf(size[0], size[1], d.short)
		for i := range places(&s) {
			try := func(x api.Rat, right bool) {
				t.Helper()
				r := lendStd(s)
				*places(&r)[i] = x
				wantRight(t, r, right, fmt.Sprint("number ", i, " is ", text(x)))
			}
			isB := i >= size[1] && i < size[1]+size[0]
			for _, x := range wrong() {
				try(x, false)
			}
			for _, x := range append(noughts(), above()...) {
				try(x, true)
			}
			for _, x := range append(below(), api.Rat{Num: minus(1), Den: plus(0, 0, 0, 1)}) {
				try(x, !isB)
			}
		}
	}
}

// TestRightOfTheGreatest: of the greatest each number, by itself, may make it wrong.
func TestRightOfTheGreatest(t *testing.T) {
	d := dice(44)
	s := d.stdOf(64, 80, d.short)
	list := places(&s)
	if !prob.Right(s) {
		t.Fatal("P11.1: the greatest isn't right")
	}
	for i, place := range list {
		was := *place
		*place = api.Rat{Num: plus(1)}
		if i%7 == 0 && prob.Right(s) {
			t.Fatalf("P11.1: right, but number %v", i)
		}
		*place = was
	}
}
