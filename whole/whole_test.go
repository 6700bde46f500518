package whole_test

import (
	"math"
	"math/big"
	"slices"
	"testing"

	"heijunka/api"
	"heijunka/whole"
)

// int64s are those at which sizes and signs go wrong.
func int64s() []int64 {
	list := []int64{0, 1, 2, 9, 10, 1<<31 - 1, 1 << 31, top, top + 1, 1<<62 + 5, math.MaxInt64 - 1, math.MaxInt64}
	for _, n := range slices.Clone(list) {
		list = append(list, -n)
	}
	return append(list, math.MinInt64, math.MinInt64+1)
}

func TestOf(t *testing.T) {
	for _, n := range int64s() {
		wantInt(t, "P2.1: Of", whole.Of(n), big.NewInt(n))
	}
}

func TestPlain(t *testing.T) {
	for _, a := range ints() {
		checkOne(t, "P2.1: Plain", whole.Plain, a, bigOf(a))
	}
}

func TestPairs(t *testing.T) {
	for _, a := range ints() {
		for _, b := range ints() {
			checkPair(t, a, b)
		}
	}
}

func TestSmallPairs(t *testing.T) {
	for a := int64(-12); a <= 12; a++ {
		for b := int64(-12); b <= 12; b++ {
			checkPair(t, whole.Of(a), whole.Of(b))
		}
	}
}

func TestLongPairs(t *testing.T) {
	d := dice(2)
	for _, n := range []int{40, 4096} {
		for _, m := range []int{1, 39, n} {
			a, b := d.row(n), d.row(m)
			for i := range 4 {
				checkPair(t, api.Int{Neg: i&1 == 1, Mag: a}, api.Int{Neg: i&2 == 2, Mag: b})
			}
		}
	}
}

func TestDivExamples(t *testing.T) {
	for _, c := range [][4]int64{
		{7, 2, 3, 1}, {-7, 2, -4, 1}, {7, -2, -4, -1}, {-7, -2, 3, -1},
		{6, 2, 3, 0}, {-6, 2, -3, 0}, {6, -2, -3, 0}, {-6, -2, 3, 0},
		{1, 9, 0, 1}, {-1, 9, -1, 8}, {1, -9, -1, -8}, {-1, -9, 0, -1},
		{0, 5, 0, 0}, {0, -5, 0, 0},
		{math.MinInt64, math.MaxInt64, -2, math.MaxInt64 - 1}, {-top, 1 << 32, -1, 1}, {-1 << 32, top, -2, top - 1},
	} {
		q, r, ok := whole.Div(whole.Of(c[0]), whole.Of(c[1]))
		if !ok || !same(q, whole.Of(c[2])) || !same(r, whole.Of(c[3])) {
			t.Errorf("P2.1: %v by %v: %v %v %v", c[0], c[1], q, r, ok)
		}
	}
}

func TestDivByZero(t *testing.T) {
	for _, mag := range [][]uint32{nil, {0}, {0, 0, 0}} {
		for _, b := range []api.Int{{Mag: mag}, {Neg: true, Mag: mag}} {
			for _, a := range ints() {
				if q, r, ok := whole.Div(a, b); ok || !isZero(q) || !isZero(r) {
					t.Errorf("P2.1: %v by %v: %v %v %v", a, b, q, r, ok)
				}
			}
		}
	}
}

// 0 is one number, whatever its sign and its limbs.
func TestZeros(t *testing.T) {
	zeros := []api.Int{{}, {Neg: true}, {Mag: []uint32{0}}, {Neg: true, Mag: []uint32{0, 0}}}
	for _, a := range zeros {
		for _, b := range zeros {
			if whole.Cmp(a, b) != 0 || !isZero(whole.Add(a, b)) || !isZero(whole.Sub(a, b)) || !isZero(whole.Mul(a, b)) {
				t.Errorf("P2.1: %v and %v", a, b)
			}
		}
		if whole.Cmp(a, whole.Of(-1)) != 1 || whole.Cmp(a, whole.Of(1)) != -1 || whole.Cmp(whole.Of(-1), a) != -1 || whole.Cmp(whole.Of(1), a) != 1 {
			t.Errorf("P2.1: Cmp of %v and 1 or -1", a)
		}
		if !isZero(whole.Plain(a)) || !isZero(whole.Mul(a, whole.Of(-3))) {
			t.Errorf("P2.1: %v isn't 0", a)
		}
	}
}

// The same number may be handed in twice, in the same memory.
func TestOfItself(t *testing.T) {
	for _, a := range ints() {
		l := lend(a)
		x := bigOf(a)
		wantInt(t, "P2.1: Add", whole.Add(l.a, l.a), new(big.Int).Lsh(x, 1))
		wantInt(t, "P2.1: Sub", whole.Sub(l.a, l.a), new(big.Int))
		wantInt(t, "P2.1: Mul", whole.Mul(l.a, l.a), new(big.Int).Mul(x, x))
		if whole.Cmp(l.a, l.a) != 0 {
			t.Errorf("P2.1: Cmp of %v and itself", a)
		}
		if q, r, ok := whole.Div(l.a, l.a); ok != (x.Sign() != 0) || ok && !same(q, whole.Of(1)) || !isZero(r) {
			t.Errorf("P2.1: %v by itself: %v %v %v", a, q, r, ok)
		}
		l.takeBack(t)
	}
}

func TestSmall(t *testing.T) {
	list := ints()
	for _, n := range int64s() {
		list = append(list, whole.Of(n))
	}
	for _, a := range list {
		l := lend(a)
		x := bigOf(a)
		want := int64(0)
		if x.IsInt64() {
			want = x.Int64()
		}
		if n, ok := whole.Small(l.a); n != want || ok != x.IsInt64() {
			t.Errorf("P2.1: Small of %v: %v %v", a, n, ok)
		}
		l.takeBack(t)
	}
}

func TestSmallEdges(t *testing.T) {
	for _, c := range []struct {
		a    api.Int
		n    int64
		ok   bool
		what string
	}{
		{api.Int{Mag: []uint32{top, 1<<31 - 1}}, math.MaxInt64, true, "2^63 less 1"},
		{api.Int{Mag: []uint32{top, 1<<31 - 1, 0, 0}}, math.MaxInt64, true, "2^63 less 1, untrimmed"},
		{api.Int{Mag: []uint32{0, 1 << 31}}, 0, false, "2^63"},
		{api.Int{Neg: true, Mag: []uint32{0, 1 << 31}}, math.MinInt64, true, "-2^63"},
		{api.Int{Neg: true, Mag: []uint32{0, 1 << 31, 0}}, math.MinInt64, true, "-2^63, untrimmed"},
		{api.Int{Neg: true, Mag: []uint32{1, 1 << 31}}, 0, false, "-2^63 less 1"},
		{api.Int{Neg: true, Mag: []uint32{top, top}}, 0, false, "1 less 2^64"},
		{api.Int{Mag: []uint32{5, 0, 1}}, 0, false, "2^64 and 5"},
		{api.Int{Neg: true, Mag: []uint32{5, 0, 0, 1}}, 0, false, "-2^96 less 5"},
		{api.Int{Neg: true, Mag: []uint32{0, 0}}, 0, true, "0 with a sign"},
	} {
		if n, ok := whole.Small(c.a); n != c.n || ok != c.ok {
			t.Errorf("P2.1: Small of %v: %v %v", c.what, n, ok)
		}
	}
}

func TestDivFollows(t *testing.T) {
	for _, a := range ints() {
		for _, b := range ints() {
			q, r, ok := whole.Div(a, b)
			if !ok {
				continue
			}
			if whole.Cmp(whole.Add(whole.Mul(q, b), r), a) != 0 {
				t.Fatalf("P2.4: %v by %v: %v %v", a, b, q, r)
			}
			if !isZero(r) && (r.Neg != (bigOf(b).Sign() < 0) || bigOf(r).CmpAbs(bigOf(b)) >= 0) {
				t.Fatalf("P2.4: %v by %v: the rest is %v", a, b, r)
			}
		}
	}
}

func TestWhatIsWrittenIsRead(t *testing.T) {
	behind := []byte{1, 2, 3}
	for _, a := range ints() {
		if back, ok := whole.Parse(whole.Text(a)); !ok || !same(back, whole.Plain(a)) {
			t.Fatalf("P2.4: Parse of Text of %v: %v %v", a, back, ok)
		}
		if back, rest, ok := whole.Read(append(whole.Bytes(a), behind...)); !ok || !same(back, whole.Plain(a)) || !slices.Equal(rest, behind) {
			t.Fatalf("P2.4: Read of Bytes of %v: %v %v %v", a, back, rest, ok)
		}
	}
}
