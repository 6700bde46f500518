package lin_test

import (
	"math/big"
	"slices"
	"testing"

	"heijunka/api"
	"heijunka/ratio"
	"heijunka/whole"
)

// top is the greatest limb.
const top = 1<<32 - 1

// bigInt is the plain model's number of a.
func bigInt(a api.Int) *big.Int {
	x := new(big.Int)
	for _, limb := range slices.Backward(a.Mag) {
		x.Lsh(x, 32)
		x.Add(x, big.NewInt(int64(limb)))
	}
	if a.Neg {
		x.Neg(x)
	}
	return x
}

// intOf is the plain model's number, plain.
func intOf(x *big.Int) api.Int {
	var mag []uint32
	for size := new(big.Int).Abs(x); size.Sign() > 0; size.Rsh(size, 32) {
		mag = append(mag, uint32(new(big.Int).And(size, big.NewInt(top)).Uint64()))
	}
	return api.Int{Neg: x.Sign() < 0, Mag: mag}
}

// bigRat is the plain model's fraction that a counts as.
func bigRat(a api.Rat) *big.Rat {
	den := bigInt(a.Den)
	if den.Sign() <= 0 {
		return new(big.Rat)
	}
	return new(big.Rat).SetFrac(bigInt(a.Num), den)
}

// ratOf is the plain model's fraction, plain.
func ratOf(x *big.Rat) api.Rat {
	return api.Rat{Num: intOf(x.Num()), Den: intOf(x.Denom())}
}

func bigRow(a []api.Rat) []*big.Rat {
	out := make([]*big.Rat, len(a))
	for i, x := range a {
		out[i] = bigRat(x)
	}
	return out
}

func bigTable(t [][]api.Rat) [][]*big.Rat {
	out := make([][]*big.Rat, len(t))
	for i, row := range t {
		out[i] = bigRow(row)
	}
	return out
}

// of is num by den, plain.
func of(num, den int64) api.Rat {
	return ratOf(big.NewRat(num, den))
}

// row is a row of whole numbers.
func row(list ...int64) []api.Rat {
	out := make([]api.Rat, len(list))
	for i, n := range list {
		out[i] = of(n, 1)
	}
	return out
}

// texts is a row of fractions that are written.
func texts(t *testing.T, list ...string) []api.Rat {
	t.Helper()
	out := make([]api.Rat, len(list))
	for i, s := range list {
		x, ok := ratio.Parse(s)
		if !ok {
			t.Fatalf("no fraction: %q", s)
		}
		out[i] = x
	}
	return out
}

// dice gives the same numbers in each run.
type dice uint64

func (d *dice) next() uint32 {
	*d = *d*6364136223846793005 + 1442695040888963407
	return uint32(*d >> 33 * 2654435761)
}

// below is a number from 0 to n - 1.
func (d *dice) below(n int) int {
	return int(d.next()>>8) % n
}

// size is a number of n limbs.
func (d *dice) size(n int) []uint32 {
	mag := make([]uint32, n)
	for i := range mag {
		mag[i] = d.next() | 1
	}
	return mag
}

// short is a fraction of few digits, often 0.
func (d *dice) short() api.Rat {
	if d.below(3) == 0 {
		return of(0, 1)
	}
	return of(int64(d.below(19)-9), int64(1+d.below(5)))
}

// kind is one of the kinds of fractions.
func (d *dice) kind() api.Rat {
	list := kinds()
	return list[d.below(len(list))]
}

func (d *dice) row(n int, one func() api.Rat) []api.Rat {
	out := make([]api.Rat, n)
	for i := range out {
		out[i] = one()
	}
	return out
}

func (d *dice) table(m, n int, one func() api.Rat) [][]api.Rat {
	out := make([][]api.Rat, m)
	for i := range out {
		out[i] = d.row(n, one)
	}
	return out
}

func plus(mag ...uint32) api.Int  { return api.Int{Mag: mag} }
func minus(mag ...uint32) api.Int { return api.Int{Neg: true, Mag: mag} }

// zeros are fractions that are 0, and such as may not be, which count as it.
func zeros() []api.Rat {
	return []api.Rat{
		{Den: plus(1)}, {Num: minus(), Den: plus(7)}, {Num: plus(0, 0), Den: plus(4, 0)}, {Num: minus(0), Den: plus(0, 2)},
		{}, {Num: plus(5)}, {Num: plus(5), Den: plus(0, 0)}, {Num: plus(5), Den: minus(3)}, {Num: minus(5), Den: minus(3)}, {Num: plus(1), Den: minus(0)},
	}
}

// others are fractions that aren't 0: short and long, plain and not.
func others() []api.Rat {
	d := dice(3)
	return []api.Rat{
		{Num: plus(1), Den: plus(1)}, {Num: minus(1), Den: plus(1)}, {Num: plus(4, 0), Den: plus(4)}, {Num: minus(7), Den: plus(1)},
		{Num: plus(3), Den: plus(2)}, {Num: minus(6, 0, 0), Den: plus(4, 0)}, {Num: minus(2), Den: plus(3)}, {Num: plus(2), Den: plus(3)},
		{Num: plus(1<<31 - 1), Den: plus(1 << 31)}, {Num: minus(0, 1), Den: plus(top)},
		{Num: plus(d.size(5)...), Den: plus(d.size(3)...)}, {Num: minus(d.size(2)...), Den: plus(d.size(4)...)},
	}
}

func kinds() []api.Rat { return append(zeros(), others()...) }

func sameInt(a, b api.Int) bool      { return a.Neg == b.Neg && slices.Equal(a.Mag, b.Mag) }
func same(a, b api.Rat) bool         { return sameInt(a.Num, b.Num) && sameInt(a.Den, b.Den) }
func sameRow(a, b []api.Rat) bool    { return slices.EqualFunc(a, b, same) }
func sameRows(a, b [][]api.Rat) bool { return slices.EqualFunc(a, b, sameRow) }

// wide is a list with its spare room.
func wide[T any](list []T) []T { return list[:cap(list)] }

// roomy is a list with something in its spare room.
func roomy[T any](list []T, behind ...T) []T { return slices.Concat(list, behind)[:len(list)] }

// lent are rows that are handed in: memory that isn't the call's to write to, nor to keep.
type lent struct {
	rows, was [][]api.Rat
}

func lend(rows ...[]api.Rat) lent {
	return lent{deepCopy(rows), deepCopy(rows)}
}

// deepCopy is rows in other memory, with spare room at all places.
func deepCopy(rows [][]api.Rat) [][]api.Rat {
	var out [][]api.Rat
	for _, row := range rows {
		var list []api.Rat
		for _, a := range append(slices.Clone(row), of(5, 3), of(-8, 9)) {
			a.Num.Mag, a.Den.Mag = roomy(a.Num.Mag, 77, 78), roomy(a.Den.Mag, 87, 88)
			list = append(list, a)
		}
		out = append(out, list[:len(row)])
	}
	return roomy(out, row(1, 2), row(3))
}

// takeBack sees to it that nothing was changed, and writes all over, so that an answer that shares it can be told.
func (l lent) takeBack(t *testing.T) {
	t.Helper()
	sameWide := func(a, b []api.Rat) bool {
		return slices.EqualFunc(wide(a), wide(b), func(a, b api.Rat) bool {
			return same(a, b) && slices.Equal(wide(a.Num.Mag), wide(b.Num.Mag)) && slices.Equal(wide(a.Den.Mag), wide(b.Den.Mag))
		})
	}
	if !slices.EqualFunc(wide(l.rows), wide(l.was), sameWide) {
		t.Fatalf("rule 3: what was handed in was changed: %v is now %v", l.was, l.rows)
	}
	for i, row := range wide(l.rows) {
		for k, a := range wide(row) {
			mark(a.Num.Mag, 0xabcdef)
			mark(a.Den.Mag, 0xfedcba)
			wide(row)[k] = of(12345, 67)
		}
		wide(l.rows)[i] = nil
	}
}

func mark(mag []uint32, n uint32) {
	for i := range wide(mag) {
		wide(mag)[i] = n
	}
}

func isMarked(mag []uint32, n uint32) bool {
	return !slices.ContainsFunc(wide(mag), func(limb uint32) bool { return limb != n })
}

// wantRows holds rows that are answered, which are to be plain, and of memory of their own, against the plain model's. It writes over them.
func wantRows(t *testing.T, got [][]api.Rat, want [][]*big.Rat, what string, args ...any) {
	t.Helper()
	ok := slices.EqualFunc(got, want, func(g []api.Rat, w []*big.Rat) bool {
		return slices.EqualFunc(g, w, func(a api.Rat, x *big.Rat) bool { return same(a, ratOf(x)) })
	})
	if !ok {
		t.Fatalf("%v of %v: %v, not %v", what, args, got, want)
	}
	wantOwnNumbers(t, got, what)
	wantOwnRows(t, got, what)
}

// wantOwnNumbers sees to it that no two numbers share memory.
func wantOwnNumbers(t *testing.T, rows [][]api.Rat, what string) {
	t.Helper()
	var all [][]uint32
	for _, row := range rows {
		for _, a := range row {
			all = append(all, a.Num.Mag, a.Den.Mag)
		}
	}
	for i, mag := range all {
		mark(mag, uint32(i))
	}
	for i, mag := range all {
		if !isMarked(mag, uint32(i)) {
			t.Fatalf("rule 3: %v: two numbers of the answer share memory", what)
		}
	}
}

// wantOwnRows sees to it that no two rows share memory.
func wantOwnRows(t *testing.T, rows [][]api.Rat, what string) {
	t.Helper()
	for i, row := range rows {
		for k := range wide(row) {
			wide(row)[k] = api.Rat{Num: whole.Of(int64(i))}
		}
	}
	for i, row := range rows {
		for _, a := range wide(row) {
			if !sameInt(a.Num, whole.Of(int64(i))) {
				t.Fatalf("rule 3: %v: two rows of the answer share memory", what)
			}
		}
	}
}

// wantRow holds a row that is answered against the plain model's. It writes over it.
func wantRow(t *testing.T, got []api.Rat, want []*big.Rat, what string, args ...any) {
	t.Helper()
	wantRows(t, [][]api.Rat{got}, [][]*big.Rat{want}, what, args...)
}
