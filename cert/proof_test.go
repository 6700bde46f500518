package cert_test

import (
	"math/big"
	"slices"
	"testing"

	"heijunka/api"
	"heijunka/cert"
)

// TestTheExample: y = 2, least y: u = 1 proves that 2 is best.
func TestTheExample(t *testing.T) {
	c := claim{api.Std{A: [][]api.Rat{row(1)}, B: row(2), C: row(1)}, api.Sol{How: api.Best, Y: row(2), Value: of(2, 1), Proof: row(1)}}
	wantKind(t, c)
	for _, u := range [][]api.Rat{row(0), row(-1), row(2), {of(1, 2)}, {of(3, 2)}} {
		if cert.Best(c.S, c.X.Y, u) {
			t.Errorf("P12.2: %v proves it, too", text(u))
		}
	}
}

func TestBestByHand(t *testing.T) {
	c := sample()
	wantKind(t, c)
	for _, x := range []struct {
		y, u []api.Rat
		what string
	}{
		{row(0, 2, 0, 4), c.X.Proof, "numbers that cost more"},
		{row(3, 1, 0, 0), c.X.Proof, "numbers that don't fulfil it"},
		{c.X.Y, row(0, 0), "columns above their costs"},
		{c.X.Y, row(-1, 0), "one column above its cost"},
		{c.X.Y, row(-1, -1), "B by them is less"},
		{c.X.Y, c.X.Proof[:1], "one row number"},
		{c.X.Y[:3], c.X.Proof, "three numbers"},
		{nil, nil, "nothing"},
	} {
		d := sample()
		d.X.Y, d.X.Proof = x.y, x.u
		if wantClaim(t, d).best {
			t.Errorf("P12.2: Best, but %v", x.what)
		}
	}
}

// TestBestWhereOneThingFails: B by u is C by y, but a column is above its cost, or y doesn't fulfil the problem.
func TestBestWhereOneThingFails(t *testing.T) {
	one := [][]api.Rat{row(1, 1)}
	for _, x := range []struct {
		s    api.Std
		y, u []api.Rat
		want bool
	}{
		{api.Std{A: one, B: row(2), C: row(1, 1)}, row(2, 0), row(1), true},
		{api.Std{A: one, B: row(2), C: row(1, 0)}, row(2, 0), row(1), false},                           // the second column is above
		{api.Std{A: one, B: row(2), C: row(0, 1)}, row(0, 2), row(1), false},                           // the first one is
		{api.Std{A: one, B: row(0), C: row(-1, 0)}, row(0, 0), row(0), false},                          // C below 0
		{api.Std{A: one, B: row(2), C: row(2, 1)}, row(1, 0), row(1), false},                           // too few
		{api.Std{A: one, B: row(2), C: row(1, 1)}, row(3, -1), row(1), false},                          // one is below 0
		{api.Std{A: one, B: row(2), C: row(2, 3)}, row(1, 1), row(2), false},                           // B by u is less
		{api.Std{A: one, B: row(2), C: row(-3, -3)}, row(2, 0), row(-3), true},                         // all below 0
		{api.Std{C: row(0, 3)}, row(7, 0), nil, true},                                                  // no rows
		{api.Std{C: row(0, 3)}, row(7, 1), nil, false},                                                 // no rows, and it costs something
		{api.Std{C: row(0, -3)}, row(7, 0), nil, false},                                                // no rows, and it may cost less
		{api.Std{}, nil, nil, true},                                                                    // nothing at all
		{api.Std{A: [][]api.Rat{{}}, B: row(0)}, nil, row(9), true},                                    // no columns
		{api.Std{A: [][]api.Rat{{}}, B: row(1)}, nil, row(0), false},                                   // no columns, but something is asked
		{api.Std{A: [][]api.Rat{row(1), row(1)}, B: row(1, 2), C: row(0)}, row(1), row(0, 0), false},   // the second row isn't fulfilled
		{api.Std{A: [][]api.Rat{row(1), row(1)}, B: row(1, 2), C: row(0)}, row(2), row(0, 0), false},   // the first one isn't
		{api.Std{A: [][]api.Rat{row(1), row(2)}, B: row(1, 2), C: row(5)}, row(1), row(1, 2), true},    // both rows
		{api.Std{A: [][]api.Rat{row(1), row(2)}, B: row(1, 2), C: row(5)}, row(1), row(7, -1), true},   // otherwise
		{api.Std{A: [][]api.Rat{row(1), row(2)}, B: row(1, 2), C: row(5)}, row(1), row(-1, 2), false},  // less
		{api.Std{A: [][]api.Rat{row(1), row(2)}, B: row(1, 2), C: row(5)}, row(1), row(2, 2), false},   // more
		{api.Std{A: [][]api.Rat{row(1), row(2)}, B: row(1, -2), C: row(5)}, row(1), row(7, -1), false}, // not right
	} {
		if c := (claim{x.s, api.Sol{Y: x.y, Proof: x.u}}); wantClaim(t, c).best != x.want {
			t.Errorf("P12.2: Best of %v isn't %v", text(c), x.want)
		}
	}
}

func TestNoneByHand(t *testing.T) {
	two := [][]api.Rat{row(1, 1), row(1, 1)}
	for _, x := range []struct {
		s    api.Std
		u    []api.Rat
		want bool
	}{
		{api.Std{A: two, B: row(1, 2), C: row(0, 0)}, row(-1, 1), true},
		{api.Std{A: two, B: row(1, 2), C: row(-9, 9)}, row(-1, 1), true},              // C is nothing to it
		{api.Std{A: two, B: row(1, 2), C: row(0, 0)}, row(1, -1), false},              // B by it is below 0
		{api.Std{A: two, B: row(1, 1), C: row(0, 0)}, row(-1, 1), false},              // B by it is 0
		{api.Std{A: two, B: row(1, 2), C: row(0, 0)}, row(0, 0), false},               // nothing
		{api.Std{A: two, B: row(1, 2), C: row(0, 0)}, row(0, 1), false},               // columns above 0
		{api.Std{A: two, B: row(1, 3), C: row(0, 0)}, row(-2, 1), true},               // columns below 0
		{api.Std{A: [][]api.Rat{row(-1, 0)}, B: row(1), C: row(0, 0)}, row(1), true},  // columns of 0
		{api.Std{A: [][]api.Rat{row(-1, 1)}, B: row(1), C: row(0, 0)}, row(1), false}, // one above 0
		{api.Std{A: [][]api.Rat{row(1, -1)}, B: row(1), C: row(5, 5)}, row(1), false}, // though it isn't above its cost
		{api.Std{A: [][]api.Rat{{}}, B: row(1)}, row(1), true},                        // no columns
		{api.Std{A: [][]api.Rat{{}}, B: row(0)}, row(1), false},                       // no columns, and nothing is asked
		{api.Std{C: row(-1)}, nil, false},                                             // no rows
		{api.Std{}, nil, false},
		{api.Std{A: two, B: row(1, 2), C: row(0, 0)}, row(1), false}, // one row number
		{api.Std{A: two, B: row(1, 2), C: row(0, 0)}, row(-1, 1, 0), false},
		{api.Std{A: two, B: row(1, 2), C: row(0)}, row(-1, 1), false}, // not right
	} {
		if c := (claim{x.s, api.Sol{How: api.None, Proof: x.u}}); wantClaim(t, c).none != x.want {
			t.Errorf("P12.2: None of %v isn't %v", text(c), x.want)
		}
	}
}

func TestEndlessByHand(t *testing.T) {
	one := [][]api.Rat{row(1, -1, 0)}
	e := api.Std{A: one, B: row(1), C: row(0, -1, -1)}
	for _, x := range []struct {
		s      api.Std
		y, ray []api.Rat
		want   bool
	}{
		{e, row(1, 0, 0), row(0, 0, 1), true},
		{e, row(2, 1, 0), row(1, 1, 0), true},
		{e, row(2, 1, 7), row(1, 1, 1), true},
		{e, row(1, 0, 0), row(0, 1, 0), false},  // the row changes
		{e, row(1, 0, 0), row(1, 0, 9), false},  // so it does
		{e, row(1, 0, 0), row(0, 0, 0), false},  // it costs 0
		{e, row(0, 0, 0), row(0, 0, 1), false},  // it begins nowhere
		{e, row(0, -1, 0), row(0, 0, 1), false}, // below 0
		{e, row(1, 0, 0), row(-1, -1, 2), false},
		{e, row(1, 0, 0), row(0, 0), false},
		{e, row(1, 0), row(0, 0, 1), false},
		{e, row(1, 0, 0), row(0, 0, 1, 0), false},
		{e, row(1, 0, 0), nil, false},
		{api.Std{A: one, B: row(1), C: row(2, -2, 0)}, row(1, 0, 0), row(1, 1, 1), false},               // it costs 0, all in all
		{api.Std{A: one, B: row(1), C: row(3, -2, 0)}, row(1, 0, 0), row(1, 1, 1), false},               // it costs more
		{api.Std{A: one, B: row(1), C: row(1, -2, 0)}, row(1, 0, 0), row(1, 1, 1), true},                // it costs less
		{api.Std{A: [][]api.Rat{one[0], row(0, 0, 1)}, B: row(1, 0), C: e.C}, e.C, row(0, 0, 1), false}, // a second row changes
		{api.Std{A: one, B: row(0), C: e.C}, row(0, 0, 0), row(0, 0, 1), true},                          // from nothing on
		{api.Std{C: row(-1)}, row(0), row(1), true},                                                     // no rows
		{api.Std{C: row(-1)}, row(-1), row(1), false},
		{api.Std{C: row(-1)}, row(0), row(-1), false},
		{api.Std{C: row(1)}, row(0), row(1), false},
		{api.Std{}, nil, nil, false},
		{api.Std{A: one, B: row(-1), C: e.C}, row(0, 1, 0), row(0, 0, 1), false}, // not right
	} {
		if c := (claim{x.s, api.Sol{How: api.Endless, Y: x.y, Ray: x.ray}}); wantClaim(t, c).endless != x.want {
			t.Errorf("P12.2: Endless of %v isn't %v", text(c), x.want)
		}
	}
}

// TestProvesValues: Value is C by Y, in whatever way it is written; of None and Endless it means nothing.
func TestProvesValues(t *testing.T) {
	c := sample() // of the value -14/5
	for _, x := range []struct {
		value api.Rat
		want  bool
	}{
		{of(-14, 5), true}, {api.Rat{Num: minus(28, 0), Den: plus(10)}, true}, {of(14, 5), false}, {of(-3, 1), false}, {of(0, 1), false}, {api.Rat{}, false},
		{api.Rat{Num: minus(14), Den: minus(5)}, false}, {ratOf(sum(big.NewRat(-14, 5), tiny())), false}, {ratOf(less(big.NewRat(-14, 5), tiny())), false},
	} {
		c.X.Value = x.value
		if cert.Proves(c.S, c.X) != x.want {
			t.Errorf("P12.3: the value %v", text(x.value))
		}
	}
	free := claim{api.Std{C: row(1)}, api.Sol{Y: row(0)}}
	for _, x := range slices.Concat(noughts(), wrong()) { // whatever counts as 0
		free.X.Value = x
		wantKind(t, free)
	}
	d := dice(21)
	for range 20 {
		for _, c := range d.kinds(2, 3, d.short) {
			for _, x := range append(wrong(), of(0, 1), of(5, 1), c.X.Value) {
				r := c
				r.X.Value = x
				want := c.X.How != api.Best || bigRat(x).Cmp(bigRat(c.X.Value)) == 0
				if cert.Proves(r.S, r.X) != want {
					t.Errorf("P12.3: of %v the value %v", text(c), text(x))
				}
			}
		}
	}
}

// TestProvesByItsHow: what proves one thing proves it whatever else is there, and nothing but it.
func TestProvesByItsHow(t *testing.T) {
	d := dice(22)
	for range 40 {
		for _, c := range d.kinds(1+d.below(3), 1+d.below(3), d.short) {
			wantKind(t, c)
			x := c
			switch c.X.How {
			case api.Best:
				x.X.Basis, x.X.Ray = nil, nil
			case api.None:
				x.X.Basis, x.X.Y, x.X.Ray, x.X.Value = nil, nil, nil, api.Rat{}
			case api.Endless:
				x.X.Basis, x.X.Proof, x.X.Value = nil, nil, api.Rat{}
			}
			wantKind(t, x)
			if x.X.How == api.None {
				x.X.Y = c.X.Y
			}
			for _, how := range []int{-2, -1, 3, 4} {
				x.X.How = how
				if cert.Proves(x.S, x.X) {
					t.Errorf("P12.3: how %v is proven", how)
				}
			}
		}
	}
}
