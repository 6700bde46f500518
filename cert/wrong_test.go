package cert_test

import (
	"fmt"
	"slices"
	"testing"

	"heijunka/api"
	"heijunka/cert"
)

// TestSizes: problems that hold all that is asked, but may have too many rows, or columns.
func TestSizes(t *testing.T) {
	d := dice(11)
	for _, m := range []int{0, 1, 2, 63, 64, 65, 66} {
		for _, n := range []int{0, 1, 2, 64, 79, 80, 81, 82} {
			for _, c := range d.kinds(m, n, d.few) {
				if m <= 64 && n <= 80 {
					wantKind(t, c)
				} else {
					wantNothing(t, c, fmt.Sprint(m, " rows, ", n, " columns"))
				}
			}
		}
	}
}

// TestLengths: each row of a claim in turn one shorter, longer, or nothing.
func TestLengths(t *testing.T) {
	d := dice(12)
	for m := range 4 {
		for n := range 4 {
			for _, c := range d.kinds(m, n, d.short) {
				for i := range lists(&c) {
					for k := range 6 {
						x := lendClaim(c)
						l := lists(&x)[i]
						*l = slices.Concat(*l, row(0, 0, 0, 0, 0, 0))[:k]
						wantClaim(t, x)
					}
				}
			}
		}
	}
}

// TestOneLengthLess: of each claim that holds what is asked of has as many numbers as it must.
func TestOneLengthLess(t *testing.T) {
	c := sample()
	c.S.A, c.S.C, c.X.Y = [][]api.Rat{row(1, 2, 1, 0, 0), row(3, 1, 0, 1, 0)}, row(-1, -1, 0, 0, 0), append(c.X.Y, of(0, 1))
	wantKind(t, c)
	for what, change := range map[string]func(c *claim){
		"y one shorter": func(c *claim) { c.X.Y = c.X.Y[:4] },
		"y one longer":  func(c *claim) { c.X.Y = append(c.X.Y, of(0, 1)) },
		"u one shorter": func(c *claim) { c.X.Proof = c.X.Proof[:1] },
		"u one longer":  func(c *claim) { c.X.Proof = append(c.X.Proof, of(0, 1)) },
	} {
		x := lendClaim(c)
		change(&x)
		if wantClaim(t, x).best {
			t.Errorf("P12.2: Best of %v", what)
		}
	}
	e := claim{api.Std{A: [][]api.Rat{row(1, -1, 0)}, B: row(1), C: row(0, -1, -1)}, api.Sol{How: api.Endless, Y: row(1, 0, 0), Ray: row(1, 1, 0)}}
	wantKind(t, e)
	for _, ray := range [][]api.Rat{row(1, 1), row(1, 1, 0, 0), nil} {
		x := e
		x.X.Ray = ray
		if wantClaim(t, x).endless {
			t.Errorf("P12.2: Endless along %v", text(ray))
		}
	}
}

// TestWrongNumbers: of a problem none may be one that may not be; in numbers for it such count as 0.
func TestWrongNumbers(t *testing.T) {
	d := dice(13)
	for m := range 3 {
		for n := range 4 {
			for _, c := range d.kinds(m, n, d.few) {
				for i, place := range places(&c) {
					for _, x := range wrong() {
						r := lendClaim(c)
						*places(&r)[i] = x
						got := wantClaim(t, r)
						if inStd(&c, place) && got != (truths{}) {
							t.Fatalf("P12.2: %v, though the problem isn't right: %v", got, text(r))
						}
						if !inStd(&c, place) && same(*place, of(0, 1)) {
							wantKind(t, r)
						}
					}
				}
			}
		}
	}
}

// inStd tells whether a place of a claim's numbers is one of its problem's.
func inStd(c *claim, place *api.Rat) bool {
	for _, l := range append([][]api.Rat{c.S.B, c.S.C}, c.S.A...) {
		for j := range l {
			if &l[j] == place {
				return true
			}
		}
	}
	return false
}

// TestBelowZeroInB: a row of what holds, turned with its number, so that something below 0 is held against it.
func TestBelowZeroInB(t *testing.T) {
	d := dice(14)
	turned := 0
	for range 60 {
		for _, c := range d.kinds(1+d.below(3), 1+d.below(3), d.short) {
			for i := range c.S.B {
				x := lendClaim(c)
				turn(x.S.A[i])
				turn(x.S.B[i : i+1])
				turn(x.X.Proof[i : i+1])
				if bigRat(x.S.B[i]).Sign() == 0 {
					wantKind(t, x)
					continue
				}
				wantNothing(t, x, "something below 0 is held")
				turned++
			}
		}
	}
	if turned < 100 {
		t.Errorf("only %v were turned", turned)
	}
}

// turn makes each number its opposite.
func turn(list []api.Rat) {
	for i := range list {
		list[i].Num.Neg = !list[i].Num.Neg
	}
}

// TestOneByOne: of what holds each number in turn a little more, or less.
func TestOneByOne(t *testing.T) {
	d := dice(15)
	var yes, no [3]int
	for range 12 {
		for _, c := range d.kinds(1+d.below(3), 1+d.below(4), d.few) {
			for i := range places(&c) {
				for _, step := range []int64{-1, 1} {
					x := lendClaim(c)
					place := places(&x)[i]
					*place = ratOf(sum(bigRat(*place), times(tiny(), bigRat(of(step, 1)))))
					got := wantClaim(t, x)
					if []bool{got.best, got.none, got.endless}[c.X.How] {
						yes[c.X.How]++
					} else {
						no[c.X.How]++
					}
				}
			}
		}
	}
	for how := range 3 {
		if yes[how] < 50 || no[how] < 10 {
			t.Errorf("of how %v too few of a kind: %v held, %v did not", how, yes[how], no[how])
		}
	}
}

// TestOneMemory: what is handed in may be one row at all places.
func TestOneMemory(t *testing.T) {
	d := dice(16)
	for range 200 {
		one := ratRow(d.sizes(2, d.few))
		s := api.Std{A: [][]api.Rat{one, one}, B: one, C: one}
		c := claim{s, api.Sol{Y: one, Value: one[0], Proof: one, Ray: one}}
		wantShared(t, c)
	}
}

// wantShared holds all calls of a claim whose parts share memory against the plain model's.
func wantShared(t *testing.T, c claim) {
	t.Helper()
	was := text(c)
	s, x := c.S, c.X
	got := truths{cert.Fulfils(s, x.Y), cert.Best(s, x.Y, x.Proof), cert.None(s, x.Proof), cert.Endless(s, x.Y, x.Ray)}
	if want := (truths{fulfils(s, x.Y), isBest(s, x.Y, x.Proof), isNone(s, x.Proof), isEndless(s, x.Y, x.Ray)}); got != want {
		t.Fatalf("P12.2: of %v: %v, not %v", text(c), got, want)
	}
	list, ok := cert.Columns(s, x.Proof)
	wantColumns(t, c, list, ok)
	if text(c) != was {
		t.Fatalf("rule 3: what was handed in is now %v, was %v", text(c), was)
	}
}
