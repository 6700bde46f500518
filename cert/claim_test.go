package cert_test

import (
	"math"
	"math/big"
	"reflect"
	"slices"
	"testing"

	"heijunka/api"
	"heijunka/cert"
)

// claim is a problem, and what it is said to come to.
type claim struct {
	S api.Std
	X api.Sol
}

// lend is a number in memory of its own, with something in its spare room.
func lend(a api.Rat) api.Rat {
	return api.Rat{Num: api.Int{Neg: a.Num.Neg, Mag: roomy(a.Num.Mag, 77, 78)}, Den: api.Int{Neg: a.Den.Neg, Mag: roomy(a.Den.Mag, 87, 88)}}
}

func roomy[T any](list []T, behind ...T) []T { return slices.Concat(list, behind)[:len(list)] }

func lendRow(list []api.Rat) []api.Rat {
	var out []api.Rat
	for _, a := range append(slices.Clone(list), of(5, 3), of(-8, 9)) {
		out = append(out, lend(a))
	}
	return out[:len(list)]
}

func lendTable(t [][]api.Rat) [][]api.Rat {
	var out [][]api.Rat
	for _, list := range append(slices.Clone(t), row(1, 2), row(3)) {
		out = append(out, lendRow(list))
	}
	return out[:len(t)]
}

// lendClaim is c in memory of its own.
func lendClaim(c claim) claim {
	return claim{
		S: api.Std{A: lendTable(c.S.A), B: lendRow(c.S.B), C: lendRow(c.S.C)},
		X: api.Sol{How: c.X.How, Basis: roomy(c.X.Basis, 5, 6), Y: lendRow(c.X.Y), Value: lend(c.X.Value), Proof: lendRow(c.X.Proof), Ray: lendRow(c.X.Ray)},
	}
}

// fill goes through all that can be reached from a value, spare room too; each number is given to one, and what that tells is put there.
func fill(v reflect.Value, one func(old uint64) uint64) {
	switch v.Kind() {
	case reflect.Struct:
		for i := range v.NumField() {
			fill(v.Field(i), one)
		}
	case reflect.Slice:
		for i := range v.Cap() {
			fill(v.Slice(0, v.Cap()).Index(i), one)
		}
	case reflect.Uint32:
		v.SetUint(one(v.Uint()) % (top + 1))
	case reflect.Int:
		v.SetInt(int64(one(uint64(v.Int()))))
	case reflect.Bool:
		old := uint64(0)
		if v.Bool() {
			old = 1
		}
		v.SetBool(one(old)%2 == 1)
	default:
		panic(v.Kind())
	}
}

// takeBack sees to it that what was handed in, by its address, is still what it was, spare room too; it writes over all of it, so that an answer that shares it can be told.
func takeBack[T any](t *testing.T, x *T, was *T) {
	t.Helper()
	var now, then []uint64
	fill(reflect.ValueOf(x).Elem(), func(old uint64) uint64 { now = append(now, old); return old + 77 })
	fill(reflect.ValueOf(was).Elem(), func(old uint64) uint64 { then = append(then, old); return old })
	if !slices.Equal(now, then) {
		t.Fatalf("rule 3: what was handed in was changed: %v was %v", now, then)
	}
}

// wantOwn sees to it that no two places of an answer, given by its address, share memory, spare room too. It writes over it.
func wantOwn[T any](t *testing.T, x *T, what string) {
	t.Helper()
	n, k := uint64(0), uint64(0)
	shared := false
	fill(reflect.ValueOf(x).Elem(), func(uint64) uint64 { n++; return n })
	fill(reflect.ValueOf(x).Elem(), func(old uint64) uint64 {
		k++
		shared = shared || old != k && old != k%2 // a bool keeps one bit
		return old
	})
	if shared {
		t.Fatalf("rule 3: %v: two parts of the answer share memory", what)
	}
}

// truths are what holds of a claim, whatever its How.
type truths struct {
	fulfils, best, none, endless bool
}

// wantClaim holds all calls that can be made of a claim against the plain model, and tells what is true of it.
func wantClaim(t *testing.T, c claim) truths {
	t.Helper()
	s, x := c.S, c.X
	want := truths{fulfils(s, x.Y), isBest(s, x.Y, x.Proof), isNone(s, x.Proof), isEndless(s, x.Y, x.Ray)}
	lent, was := lendClaim(c), lendClaim(c)
	s, x = lent.S, lent.X
	got := truths{cert.Fulfils(s, x.Y), cert.Best(s, x.Y, x.Proof), cert.None(s, x.Proof), cert.Endless(s, x.Y, x.Ray)}
	if got != want {
		t.Fatalf("P12.1, P12.2: of %v: Fulfils, Best, None, Endless are %v, not %v", text(c), got, want)
	}
	for _, how := range []int{api.Best, api.None, api.Endless, -1, 3, 4, 256, 1 << 32, math.MinInt, math.MaxInt} {
		c.X.How, x.How = how, how
		if got, want := cert.Proves(s, x), isProven(c.S, c.X); got != want {
			t.Fatalf("P12.3: of %v: Proves is %v", text(c), got)
		}
	}
	list, ok := cert.Columns(s, x.Proof)
	takeBack(t, &lent, &was)
	wantColumns(t, c, list, ok)
	return want
}

// wantColumns holds what Columns answers, made of memory that was written over since, against the plain model.
func wantColumns(t *testing.T, c claim, list []api.Rat, ok bool) {
	t.Helper()
	sums, right := columns(c.S, c.X.Proof)
	equal := func(a api.Rat, x *big.Rat) bool { return same(a, ratOf(x)) }
	if ok != right || !slices.EqualFunc(list, sums, equal) {
		t.Fatalf("P12.1: Columns of %v: %v, %v, not %v, %v", text(c), text(list), ok, text(ratRow(sums)), right)
	}
	wantOwn(t, &list, "Columns")
}

// places are those of all numbers of a claim.
func places(c *claim) []*api.Rat {
	list := []*api.Rat{&c.X.Value}
	for _, l := range append([][]api.Rat{c.S.B, c.S.C, c.X.Y, c.X.Proof, c.X.Ray}, c.S.A...) {
		for j := range l {
			list = append(list, &l[j])
		}
	}
	return list
}

// lists are those of all rows of a claim.
func lists(c *claim) []*[]api.Rat {
	list := []*[]api.Rat{&c.S.B, &c.S.C, &c.X.Y, &c.X.Proof, &c.X.Ray}
	for i := range c.S.A {
		list = append(list, &c.S.A[i])
	}
	return list
}
