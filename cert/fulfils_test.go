package cert_test

import (
	"math/big"
	"testing"

	"heijunka/api"
	"heijunka/cert"
)

// sample is a problem of two rows, and its best: the least of -x - y, where x + 2y is at most 4, and 3x + y at most 6.
func sample() claim {
	s := api.Std{A: [][]api.Rat{row(1, 2, 1, 0), row(3, 1, 0, 1)}, B: row(4, 6), C: row(-1, -1, 0, 0)}
	return claim{s, api.Sol{Y: []api.Rat{of(8, 5), of(6, 5), of(0, 1), of(0, 1)}, Value: of(-14, 5), Proof: []api.Rat{of(-2, 5), of(-1, 5)}}}
}

func TestFulfilsByHand(t *testing.T) {
	for _, x := range []struct {
		y    []api.Rat
		want bool
		what string
	}{
		{sample().X.Y, true, "the best"},
		{row(0, 0, 4, 6), true, "nothing is made"},
		{row(0, 2, 0, 4), true, "one row is used up"},
		{row(2, 0, 2, 0), true, "the other one is"},
		{row(-1, 0, 5, 9), false, "the first is below 0"},
		{row(0, 3, -2, 3), false, "the third is below 0"},
		{row(2, 1, 0, -1), false, "the last is below 0"},
		{row(0, 0, 4, 5), false, "the last row has less"},
		{row(0, 0, 5, 6), false, "the first row has more"},
		{row(0, 0, 4), false, "one is missing"},
		{row(0, 0, 4, 6, 0), false, "one is too many"},
		{nil, false, "nothing"},
	} {
		c := sample()
		c.X.Y = x.y
		if wantClaim(t, c).fulfils != x.want {
			t.Errorf("P12.1: %v", x.what)
		}
	}
}

// TestFulfilsAtEdges: 0 is not below 0, and a row is just what B has.
func TestFulfilsAtEdges(t *testing.T) {
	for k := -1; k <= 1; k++ {
		x := times(tiny(), big.NewRat(int64(k), 1))
		free := claim{api.Std{C: row(1)}, api.Sol{Y: []api.Rat{ratOf(x)}}}
		if wantClaim(t, free).fulfils != (k >= 0) {
			t.Errorf("P12.1: %v is below 0, or isn't", text(free.X.Y))
		}
		for _, b := range []int64{0, 1, 3} {
			y := ratOf(sum(big.NewRat(b, 1), x))
			one := claim{api.Std{A: [][]api.Rat{row(1)}, B: row(b), C: row(0)}, api.Sol{Y: []api.Rat{y}}}
			if wantClaim(t, one).fulfils != (k == 0) {
				t.Errorf("P12.1: %v comes to %v, or doesn't", text(one.X.Y), b)
			}
		}
	}
}

// TestColumnsByHand: the sum of each row's number in a column times its own.
func TestColumnsByHand(t *testing.T) {
	s := sample().S
	for _, x := range []struct {
		u    []api.Rat
		want string
		ok   bool
	}{
		{row(1, -1), "[-2 1 1 -1]", true},
		{row(0, 0), "[0 0 0 0]", true},
		{[]api.Rat{of(-2, 5), of(-1, 5)}, "[-1 -1 -2/5 -1/5]", true},
		{[]api.Rat{{Num: plus(5)}, of(1, 3)}, "[1 1/3 0 1/3]", true},
		{row(1), "[]", false},
		{row(1, 1, 0), "[]", false},
		{nil, "[]", false},
	} {
		if list, ok := cert.Columns(s, x.u); text(list) != x.want || ok != x.ok {
			t.Errorf("P12.1: Columns by %v: %v, %v", text(x.u), text(list), ok)
		}
	}
	if list, ok := cert.Columns(api.Std{C: row(5, -6)}, nil); text(list) != "[0 0]" || !ok {
		t.Errorf("P12.1: Columns without rows: %v, %v", text(list), ok)
	}
	if list, ok := cert.Columns(api.Std{A: [][]api.Rat{nil, {}}, B: row(1, 0)}, row(3, 4)); len(list) != 0 || !ok {
		t.Errorf("P12.1: no columns: %v, %v", text(list), ok)
	}
}

// TestAllShapes: claims that hold, of all small shapes, of short, long and rough numbers.
func TestAllShapes(t *testing.T) {
	d := dice(1)
	for m := range 5 {
		for n := range 6 {
			for _, one := range []func() *big.Rat{d.few, d.short, d.mixed} {
				for _, c := range d.kinds(m, n, one) {
					wantKind(t, c)
					wantKind(t, d.rough(c))
				}
			}
		}
	}
}

// wantKind holds a claim that is true against the plain model, and sees to it that it is true.
func wantKind(t *testing.T, c claim) {
	t.Helper()
	got := wantClaim(t, c)
	if is := []bool{got.best, got.none, got.endless}; !is[c.X.How] {
		t.Fatalf("P12.2: this doesn't hold: %v", text(c))
	}
	if got.fulfils != (c.X.How != api.None) {
		t.Fatalf("P12.1: Fulfils is %v: %v", got.fulfils, text(c))
	}
	if !cert.Proves(c.S, c.X) {
		t.Fatalf("P12.3: this isn't proven: %v", text(c))
	}
}

// wantNothing sees to it that of a claim, whose problem isn't right, nothing is true.
func wantNothing(t *testing.T, c claim, what string) {
	t.Helper()
	if wantClaim(t, c) != (truths{}) {
		t.Fatalf("P12.1, P12.2: %v, but something is true: %v", what, text(c))
	}
	if list, ok := cert.Columns(c.S, c.X.Proof); ok || len(list) != 0 {
		t.Fatalf("P12.1: %v, but Columns are %v", what, text(list))
	}
}
