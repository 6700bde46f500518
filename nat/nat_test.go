package nat_test

import (
	"math/big"
	"slices"
	"testing"

	"heijunka/nat"
)

func TestTrim(t *testing.T) {
	for _, a := range rows() {
		h := hold(a)
		wantRow(t, "P1.1: Trim", nat.Trim(h.row()), limbsOf(bigOf(a)), a, nil)
		h.check(t, "Trim")
	}
}

func TestSmallExamples(t *testing.T) {
	if nat.Cmp([]uint32{1, 0}, []uint32{1}) != 0 || nat.Cmp(nil, []uint32{0}) != 0 {
		t.Error("P1.1: limbs 0 at the end count")
	}
	if nat.Cmp([]uint32{9, 1}, []uint32{1, 2}) != -1 || nat.Cmp([]uint32{1, 2}, []uint32{9, 1}) != 1 {
		t.Error("P1.1: the least limb comes first")
	}
	wantRow(t, "P1.1: Add", nat.Add([]uint32{top, top}, []uint32{1}), []uint32{0, 0, 1}, nil, nil)
	wantRow(t, "P1.1: Mul", nat.Mul([]uint32{top}, []uint32{top}), []uint32{1, top - 1}, nil, nil)
	wantRow(t, "P1.1: Mul by 0", nat.Mul([]uint32{0, 0}, []uint32{7, 7}), nil, nil, nil)
	wantRow(t, "P1.1: Gcd", nat.Gcd(nil, []uint32{0}), nil, nil, nil)
	wantRow(t, "P1.1: Gcd", nat.Gcd([]uint32{4, 6, 0}, nil), []uint32{4, 6}, nil, nil)
	q, r, ok := nat.Div([]uint32{0, 0, 1}, []uint32{10})
	if !ok || nat.Text(q) != "1844674407370955161" || nat.Text(r) != "6" {
		t.Errorf("P1.1: 2^64 by 10: %v %v %v", q, r, ok)
	}
	d, ok := nat.Sub([]uint32{0, 0, 1}, []uint32{1})
	if !ok || !slices.Equal(d, []uint32{top, top}) {
		t.Errorf("P1.1: 2^64 less 1: %v %v", d, ok)
	}
}

func TestWhatIsNotThereIsZero(t *testing.T) {
	for _, b := range [][]uint32{nil, {0}, {0, 0, 0}} {
		for _, a := range [][]uint32{nil, {5}, {1, 2, 3, 4}} {
			if q, r, ok := nat.Div(a, b); ok || len(q) != 0 || len(r) != 0 {
				t.Errorf("P1.1: %v by 0: %v %v %v", a, q, r, ok)
			}
		}
	}
	for _, p := range [][2][]uint32{{nil, {1}}, {{0, 0}, {0, 1}}, {{top}, {0, 1}}, {{5, 7, 7}, {6, 7, 7}}} {
		if d, ok := nat.Sub(p[0], p[1]); ok || len(d) != 0 {
			t.Errorf("P1.1: %v less %v: %v %v", p[0], p[1], d, ok)
		}
	}
}

func TestPairs(t *testing.T) {
	list := rows()
	for _, a := range list {
		for _, b := range list {
			checkPair(t, a, b)
		}
	}
}

// Each guess that Div can make, too great or not, comes up among these.
func TestDivOfEdges(t *testing.T) {
	edges := []uint32{0, 1, 1<<31 - 1, 1 << 31, top - 1, top}
	var tops, divisors [][]uint32
	for _, i := range edges {
		for _, j := range edges {
			divisors = append(divisors, []uint32{i, j})
			for _, k := range edges {
				divisors = append(divisors, []uint32{i, j, k})
				for _, l := range edges {
					tops = append(tops, []uint32{i, j, k, l})
				}
			}
		}
	}
	for _, a := range tops {
		for _, b := range divisors {
			checkDiv(t, a, b, bigOf(a), bigOf(b))
		}
	}
}

// Sums that end in a row of greatest limbs, differences of them, and products near them carry all the way.
func TestLongCarry(t *testing.T) {
	for _, n := range []int{1, 2, 3, 50} {
		full := slices.Repeat([]uint32{top}, n)
		one := append(make([]uint32, n), 1)
		checkPair(t, full, []uint32{1})
		checkPair(t, full, full)
		checkPair(t, one, []uint32{1})
		checkPair(t, one, full)
		checkPair(t, nat.Mul(full, full), full)
	}
}

// Neighbours in Fibonacci's row have the longest way to their greatest divisor.
func TestGcdOfFibonacci(t *testing.T) {
	a, b := []uint32{1}, []uint32{1}
	for i := range 3000 {
		a, b = b, nat.Add(a, b)
		if i%97 == 0 {
			checkPair(t, a, b)
			checkPair(t, nat.Mul(a, []uint32{0, 30}), nat.Mul(b, []uint32{0, 42}))
		}
	}
}

func TestGcdOfMultiples(t *testing.T) {
	d := dice(2)
	for n := range 12 {
		for m := range 12 {
			g, a, b := d.row(n+1), d.row(m+1), d.row(n+m+1)
			checkPair(t, nat.Mul(g, a), nat.Mul(g, b))
			checkPair(t, nat.Mul(g, b), g)
		}
	}
}

// A quotient of one limb or more between two long numbers can't be told by their highest bits alone.
func TestGcdWithGreatQuotients(t *testing.T) {
	d := dice(3)
	for n := range 10 {
		a, b := d.row(n+3), d.row(n+4)
		for range 6 {
			a, b = b, nat.Add(nat.Mul(b, d.row(1+int(d.next()%3))), a)
			checkPair(t, b, a)
			checkPair(t, nat.Add(a, []uint32{1}), a)
		}
	}
}

func TestLongNumbers(t *testing.T) {
	d := dice(4)
	a, b := d.row(4096), d.row(4096)
	a[4095], b[4095] = top, 1
	checkPair(t, a, b)
	checkPair(t, b, a)
	checkPair(t, nat.Mul(a, b), b)
	checkPair(t, a, d.row(1))
	checkPair(t, a, d.row(2))
	checkPair(t, d.row(5000), d.row(2047))
}

// What is answered stays, whatever is written over what was handed in: here none of it is a part of that.
func TestNothingIsKept(t *testing.T) {
	a, b := []uint32{5, 6, 7}, []uint32{8, 9}
	sum, product := nat.Add(a, b), nat.Mul(a, b)
	diff, _ := nat.Sub(a, b)
	q, r, _ := nat.Div(a, b)
	bytes := nat.Bytes(a)
	clear(a)
	clear(b)
	x, y := bigOf([]uint32{5, 6, 7}), bigOf([]uint32{8, 9})
	wantRow(t, "rule 3: Add", sum, limbsOf(new(big.Int).Add(x, y)), nil, nil)
	wantRow(t, "rule 3: Mul", product, limbsOf(new(big.Int).Mul(x, y)), nil, nil)
	wantRow(t, "rule 3: Sub", diff, limbsOf(new(big.Int).Sub(x, y)), nil, nil)
	wantRow(t, "rule 3: Div", q, limbsOf(new(big.Int).Quo(x, y)), nil, nil)
	wantRow(t, "rule 3: Div", r, limbsOf(new(big.Int).Rem(x, y)), nil, nil)
	if a, _, ok := nat.Read(bytes); !ok || !slices.Equal(a, []uint32{5, 6, 7}) {
		t.Errorf("rule 3: Bytes: %v", bytes)
	}
}

// The same row may be handed in twice.
func TestOfItself(t *testing.T) {
	for _, a := range rows() {
		h := hold(a)
		x := bigOf(a)
		wantRow(t, "P1.1: Add", nat.Add(h.row(), h.row()), limbsOf(new(big.Int).Lsh(x, 1)), a, a)
		wantRow(t, "P1.1: Mul", nat.Mul(h.row(), h.row()), limbsOf(new(big.Int).Mul(x, x)), a, a)
		wantRow(t, "P1.1: Gcd", nat.Gcd(h.row(), h.row()), limbsOf(x), a, a)
		checkSub(t, h.row(), h.row(), x, x)
		checkDiv(t, h.row(), h.row(), x, x)
		h.check(t, "a call of the same row twice")
	}
}

func TestFollows(t *testing.T) {
	for _, a := range rows() {
		for _, b := range rows() {
			q, r, ok := nat.Div(a, b)
			if ok && (nat.Cmp(nat.Add(nat.Mul(q, b), r), a) != 0 || nat.Cmp(r, b) >= 0) {
				t.Fatalf("P1.4: %v by %v: %v %v", a, b, q, r)
			}
		}
		if back, ok := nat.Parse(nat.Text(a)); !ok || nat.Cmp(back, a) != 0 {
			t.Fatalf("P1.4: Parse of Text of %v: %v %v", a, back, ok)
		}
		behind := []byte{1, 2, 3}
		if back, rest, ok := nat.Read(append(nat.Bytes(a), behind...)); !ok || nat.Cmp(back, a) != 0 || !slices.Equal(rest, behind) {
			t.Fatalf("P1.4: Read of Bytes of %v: %v %v %v", a, back, rest, ok)
		}
	}
}
