package ratio_test

import (
	"math"
	"math/big"
	"testing"

	"heijunka/api"
	"heijunka/ratio"
	"heijunka/whole"
)

func TestOf(t *testing.T) {
	list := []int64{
		1, 2, 3, 4, 6, 10, 1<<31 - 1, 1 << 31, 1<<31 + 1, top, top + 1, 1 << 62, math.MaxInt64 - 1, math.MaxInt64,
	}
	for _, n := range list {
		list = append(list, -n)
	}
	list = append(list, math.MinInt64, math.MinInt64+1)
	for _, den := range list {
		for _, num := range append(list, 0) {
			a, ok := ratio.Of(num, den)
			if !ok {
				t.Fatalf("P3.1: Of %v, %v: false", num, den)
			}
			wantRat(t, a, big.NewRat(num, den), "P3.1: Of")
		}
	}
}

func TestOfByZero(t *testing.T) {
	for _, num := range []int64{0, 1, -1, math.MaxInt64, math.MinInt64} {
		if a, ok := ratio.Of(num, 0); ok || !isNothing(a) {
			t.Errorf("P3.1: Of %v, 0: %v %v", num, a, ok)
		}
	}
}

func TestMay(t *testing.T) {
	for _, a := range rats() {
		l := lend(a)
		if got := ratio.May(l.a); got != mayBe(a) {
			t.Errorf("P3.1: May of %v: %v", a, got)
		}
		l.takeBack(t)
	}
}

func TestMayEdges(t *testing.T) {
	one, below := whole.Of(1), whole.Of(-1)
	for _, c := range []struct {
		a    api.Rat
		want bool
	}{
		{api.Rat{}, false},
		{api.Rat{Num: one}, false},
		{api.Rat{Num: one, Den: one}, true},
		{api.Rat{Num: below, Den: one}, true},
		{api.Rat{Num: below, Den: below}, false},
		{api.Rat{Den: below}, false},
		{api.Rat{Num: one, Den: api.Int{Neg: true}}, false},
		{api.Rat{Num: one, Den: api.Int{Mag: []uint32{0, 0}}}, false},
		{api.Rat{Num: one, Den: api.Int{Neg: true, Mag: []uint32{0, 0}}}, false},
		{api.Rat{Num: one, Den: api.Int{Mag: []uint32{0, 1, 0}}}, true},
		{api.Rat{Num: one, Den: api.Int{Neg: true, Mag: []uint32{0, 1, 0}}}, false},
		{api.Rat{Num: api.Int{Neg: true, Mag: []uint32{0}}, Den: whole.Of(9)}, true},
	} {
		if got := ratio.May(c.a); got != c.want {
			t.Errorf("P3.1: May of %v: %v", c.a, got)
		}
	}
}

func TestPlain(t *testing.T) {
	for _, a := range rats() {
		checkOne(t, "P3.1: Plain", ratio.Plain, a, bigRat(a))
	}
}

func TestPlainOfWhatMayNotBe(t *testing.T) {
	for _, den := range []api.Int{{}, {Neg: true}, {Mag: []uint32{0, 0}}, whole.Of(-1), whole.Of(math.MinInt64)} {
		for _, num := range []int64{0, 3, -3} {
			if a := ratio.Plain(api.Rat{Num: whole.Of(num), Den: den}); !isNothing(a) {
				t.Errorf("P3.1: Plain of %v by %v: %v", num, den, a)
			}
		}
	}
}

func TestPairs(t *testing.T) {
	list := some(200)
	for _, a := range list {
		for _, b := range list {
			checkPair(t, a, b)
		}
	}
}

func TestSmallPairs(t *testing.T) {
	var list []api.Rat
	for num := int64(-6); num <= 6; num++ {
		for den := int64(-1); den <= 6; den++ {
			list = append(list, api.Rat{Num: whole.Of(num), Den: whole.Of(den)})
		}
	}
	for _, a := range list {
		for _, b := range list {
			checkPair(t, a, b)
		}
	}
}

// Sums of products are greatest where fractions only just are machine words.
func TestPairsAtTheEndsOfWords(t *testing.T) {
	var list []api.Rat
	ends := []int64{1<<31 - 2, 1<<31 - 1, 1 << 31, 1<<31 + 1, top - 1, top, top + 1}
	for _, n := range ends {
		for _, d := range append(ends, 1, 2) {
			list = append(list, of(t, n, d), of(t, -n, d), of(t, 1, d), of(t, -1, n))
		}
	}
	for _, a := range list {
		for _, b := range list {
			checkPair(t, a, b)
		}
	}
}

func TestLongPairs(t *testing.T) {
	d := dice(2)
	for _, n := range []int{30, 300} {
		k := api.Int{Mag: d.limbs(n)}
		a := api.Rat{Num: api.Int{Neg: true, Mag: d.limbs(n)}, Den: api.Int{Mag: d.limbs(n / 2)}}
		b := api.Rat{Num: api.Int{Mag: d.limbs(n / 3)}, Den: api.Int{Mag: d.limbs(n)}}
		times := api.Rat{Num: whole.Mul(a.Num, k), Den: whole.Mul(a.Den, k)}
		checkPair(t, a, b)
		checkPair(t, times, b)
		checkPair(t, times, a)
		checkOne(t, "P3.1: Plain", ratio.Plain, times, bigRat(a))
	}
}

// The same fraction may be handed in twice, in the same memory, and its Num and Den may be one number's memory.
func TestOfItself(t *testing.T) {
	for _, a := range rats() {
		l := lend(a)
		x := bigRat(a)
		wantRat(t, ratio.Add(l.a, l.a), new(big.Rat).Add(x, x), "P3.1: Add", a, a)
		wantRat(t, ratio.Sub(l.a, l.a), new(big.Rat), "P3.1: Sub", a, a)
		wantRat(t, ratio.Mul(l.a, l.a), new(big.Rat).Mul(x, x), "P3.1: Mul", a, a)
		if ratio.Cmp(l.a, l.a) != 0 {
			t.Errorf("P3.1: Cmp of %v and itself", a)
		}
		q, ok := ratio.Div(l.a, l.a)
		if ok != (x.Sign() != 0) || ok && !same(q, of(t, 1, 1)) || !ok && !isNothing(q) {
			t.Errorf("P3.1: %v by itself: %v %v", a, q, ok)
		}
		l.takeBack(t)
		checkOne(t, "P3.1: Plain", ratio.Plain, api.Rat{Num: a.Den, Den: a.Den}, bigRat(api.Rat{Num: a.Den, Den: a.Den}))
	}
}

func TestDivExamples(t *testing.T) {
	for _, c := range [][6]int64{
		{1, 2, -3, 4, -2, 3}, {-1, 2, -3, 4, 2, 3}, {-1, 2, 3, 4, -2, 3}, {0, 1, -5, 3, 0, 1}, {7, 1, 7, 1, 1, 1}, {1, 1, -1, 9, -9, 1},
	} {
		q, ok := ratio.Div(of(t, c[0], c[1]), of(t, c[2], c[3]))
		if !ok || !same(q, of(t, c[4], c[5])) {
			t.Errorf("P3.1: %v: %v %v", c, q, ok)
		}
	}
}

func TestFloorCeilFrac(t *testing.T) {
	for _, a := range rats() {
		x := bigRat(a)
		floor := floorOf(x)
		ceil := new(big.Int).Neg(floorOf(new(big.Rat).Neg(x)))
		checkInt(t, "P3.2: Floor", ratio.Floor, a, floor)
		checkInt(t, "P3.2: Ceil", ratio.Ceil, a, ceil)
		checkOne(t, "P3.2: Frac", ratio.Frac, a, new(big.Rat).Sub(x, new(big.Rat).SetInt(floor)))
	}
}

func TestFloorExamples(t *testing.T) {
	for _, c := range [][6]int64{
		{6, -4, -2, -1, 1, 2}, {-7, 3, -3, -2, 2, 3}, {7, 3, 2, 3, 1, 3}, {6, 3, 2, 2, 0, 1}, {-6, 3, -2, -2, 0, 1},
		{1, 9, 0, 1, 1, 9}, {-1, 9, -1, 0, 8, 9}, {0, 9, 0, 0, 0, 1},
		{math.MaxInt64, 2, math.MaxInt64 / 2, math.MaxInt64/2 + 1, 1, 2}, {math.MinInt64, 1, math.MinInt64, math.MinInt64, 0, 1},
	} {
		a := of(t, c[0], c[1])
		floor, ceil, frac := ratio.Floor(a), ratio.Ceil(a), ratio.Frac(a)
		if !sameInt(floor, whole.Of(c[2])) || !sameInt(ceil, whole.Of(c[3])) || !same(frac, of(t, c[4], c[5])) {
			t.Errorf("P3.2: of %v by %v: %v %v %v", c[0], c[1], floor, ceil, frac)
		}
	}
}

func wantSame(t *testing.T, what string, a, b api.Rat, args ...api.Rat) {
	t.Helper()
	if !same(a, b) {
		t.Fatalf("P3.5: %v of %v: %v and %v", what, args, a, b)
	}
}

func TestOrderAndBrackets(t *testing.T) {
	list := some(40)
	for _, a := range list {
		for _, b := range list {
			wantSame(t, "sum", ratio.Add(a, b), ratio.Add(b, a), a, b)
			wantSame(t, "product", ratio.Mul(a, b), ratio.Mul(b, a), a, b)
			for _, c := range list {
				wantSame(t, "sum", ratio.Add(ratio.Add(a, b), c), ratio.Add(a, ratio.Add(b, c)), a, b, c)
				wantSame(t, "product", ratio.Mul(ratio.Mul(a, b), c), ratio.Mul(a, ratio.Mul(b, c)), a, b, c)
			}
		}
	}
}

func TestOneByIt(t *testing.T) {
	one := of(t, 1, 1)
	for _, a := range rats() {
		over, ok := ratio.Div(one, a)
		if ok != (bigRat(a).Sign() != 0) {
			t.Fatalf("P3.5: 1 by %v: %v", a, ok)
		}
		if ok {
			wantSame(t, "product with 1 by it", ratio.Mul(a, over), one, a)
		}
	}
}

func TestWhatIsWrittenIsRead(t *testing.T) {
	for _, a := range rats() {
		if back, ok := ratio.Parse(ratio.Text(a)); !ok || !same(back, ratio.Plain(a)) {
			t.Fatalf("P3.5: Parse of Text of %v: %v %v", a, back, ok)
		}
		back, behind, ok := ratio.Read(append(ratio.Bytes(a), 1, 2, 3))
		if !ok || !same(back, ratio.Plain(a)) || string(behind) != "\x01\x02\x03" {
			t.Fatalf("P3.5: Read of Bytes of %v: %v %v %v", a, back, behind, ok)
		}
	}
}
