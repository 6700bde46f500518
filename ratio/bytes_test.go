package ratio_test

import (
	"slices"
	"testing"

	"heijunka/api"
	"heijunka/ratio"
	"heijunka/whole"
)

// numberBytes is what layer 2 writes of such numbers, as the document tells it.
func numberBytes(a api.Int) []byte {
	out := []byte{0, byte(len(a.Mag)), byte(len(a.Mag) >> 8)}
	if a.Neg {
		out[0] = 1
	}
	for _, limb := range a.Mag {
		out = append(out, byte(limb), byte(limb>>8), byte(limb>>16), byte(limb>>24))
	}
	return out
}

func fractionBytes(num, den api.Int) []byte {
	return append(numberBytes(num), numberBytes(den)...)
}

func wantRead(t *testing.T, b []byte, want api.Rat, behind []byte) {
	t.Helper()
	room := append(slices.Clone(b), 55, 56)
	was := slices.Clone(room)
	a, rest, ok := ratio.Read(room[:len(b)])
	if !slices.Equal(room, was) {
		t.Fatal("rule 3: Read changed what was handed in")
	}
	clear(room)
	if !ok || !same(a, want) || !slices.Equal(rest, behind) {
		t.Fatalf("P3.4: Read of %.60v: %v, %v behind, %v", b, a, rest, ok)
	}
	wantRat(t, a, bigRat(want), "P3.4: Read")
}

func wantNoRead(t *testing.T, b []byte) {
	t.Helper()
	if a, rest, ok := ratio.Read(b); ok || !isNothing(a) || len(rest) != 0 {
		t.Fatalf("P3.4: Read of %.60v: %v, %v bytes behind, %v", b, a, len(rest), ok)
	}
}

func TestBytes(t *testing.T) {
	d := dice(4)
	list := rats()
	for _, n := range []int{255, 256, 4096} {
		mag := append(d.limbs(n), 1)[1:]
		list = append(list,
			api.Rat{Num: api.Int{Neg: true, Mag: mag}, Den: api.Int{Mag: []uint32{97}}},
			api.Rat{Num: api.Int{Mag: []uint32{97}}, Den: api.Int{Mag: mag}})
	}
	for _, a := range list {
		l := lend(a)
		b := ratio.Bytes(l.a)
		l.takeBack(t)
		plain := ratOf(bigRat(a))
		if !slices.Equal(b, fractionBytes(plain.Num, plain.Den)) {
			t.Fatalf("P3.4: Bytes of %v: %v", a, b)
		}
		wantRead(t, b, plain, nil)
		wantRead(t, append(slices.Clone(b), 0), plain, []byte{0})
		wantRead(t, append(slices.Clone(b), 9, 8, 0, 7), plain, []byte{9, 8, 0, 7})
	}
}

func TestBytesExamples(t *testing.T) {
	zero := []byte{0, 0, 0, 0, 1, 0, 1, 0, 0, 0}
	for _, c := range []struct {
		a    api.Rat
		want []byte
	}{
		{of(t, -3, 2), []byte{1, 1, 0, 3, 0, 0, 0, 0, 1, 0, 2, 0, 0, 0}},
		{api.Rat{Num: whole.Of(6), Den: whole.Of(4)}, []byte{0, 1, 0, 3, 0, 0, 0, 0, 1, 0, 2, 0, 0, 0}},
		{of(t, 1<<32, 1), []byte{0, 2, 0, 0, 0, 0, 0, 1, 0, 0, 0, 0, 1, 0, 1, 0, 0, 0}},
		{of(t, 0, 7), zero},
		{api.Rat{}, zero},
		{api.Rat{Num: whole.Of(5), Den: whole.Of(-3)}, zero},
	} {
		if b := ratio.Bytes(c.a); !slices.Equal(b, c.want) {
			t.Errorf("P3.4: Bytes of %v: %v", c.a, b)
		}
	}
}

func TestBytesOfTooManyLimbs(t *testing.T) {
	long, one := api.Int{Mag: slices.Repeat([]uint32{1}, 4097)}, whole.Of(1)
	for _, a := range []api.Rat{
		{Num: long, Den: one},
		{Num: api.Int{Neg: true, Mag: long.Mag}, Den: one},
		{Num: one, Den: long},
		{Num: whole.Add(long, one), Den: long},
	} {
		if b := ratio.Bytes(a); len(b) != 0 {
			t.Errorf("P3.4: Bytes of %v by %v limbs: %v bytes", len(a.Num.Mag), len(a.Den.Mag), len(b))
		}
	}
}

// The plain fraction's limbs count, not those of the one that is handed in.
func TestBytesOfWhatIsShorterWhenPlain(t *testing.T) {
	long := api.Int{Mag: slices.Repeat([]uint32{1}, 5000)}
	three := whole.Mul(long, whole.Of(3))
	for _, c := range []struct{ a, want api.Rat }{
		{api.Rat{Num: three, Den: long}, of(t, 3, 1)},
		{api.Rat{Num: long, Den: three}, of(t, 1, 3)},
		{api.Rat{Num: api.Int{Neg: true, Mag: make([]uint32, 5000)}, Den: long}, of(t, 0, 1)},
		{api.Rat{Num: long, Den: api.Int{Neg: true, Mag: long.Mag}}, of(t, 0, 1)},
	} {
		if b := ratio.Bytes(c.a); !slices.Equal(b, fractionBytes(c.want.Num, c.want.Den)) {
			t.Errorf("P3.4: Bytes of %v: %v bytes", c.want, len(b))
		}
	}
}

func TestReadOfTooManyLimbs(t *testing.T) {
	long, one := api.Int{Mag: slices.Repeat([]uint32{1}, 4097)}, whole.Of(1)
	wantNoRead(t, fractionBytes(long, one))
	wantNoRead(t, fractionBytes(one, long))
}

func TestReadOfWhatIsNotPlain(t *testing.T) {
	untrimmed := func(mag ...uint32) api.Int { return api.Int{Mag: mag} }
	for _, c := range []struct{ num, den api.Int }{
		{whole.Of(2), whole.Of(4)}, {whole.Of(-2), whole.Of(4)}, {whole.Of(3), whole.Of(3)}, {whole.Of(-9), whole.Of(6)}, {whole.Of(4), whole.Of(2)},
		{whole.Of(0), whole.Of(2)}, {whole.Of(0), whole.Of(top)},
		{whole.Of(0), whole.Of(0)}, {whole.Of(1), whole.Of(0)}, {whole.Of(-1), whole.Of(0)}, {whole.Of(5), whole.Of(0)},
		{whole.Of(1), whole.Of(-1)}, {whole.Of(0), whole.Of(-1)}, {whole.Of(3), whole.Of(-2)}, {whole.Of(-3), whole.Of(-2)}, {whole.Of(2), whole.Of(-4)},
		{untrimmed(3, 0), whole.Of(2)}, {whole.Of(3), untrimmed(2, 0)}, {untrimmed(0), whole.Of(1)}, {whole.Of(1), untrimmed(1, 0)}, {whole.Of(1), untrimmed(0)},
		{api.Int{Neg: true}, whole.Of(1)}, {whole.Of(1), api.Int{Neg: true}},
		{untrimmed(0, 0, 6), untrimmed(0, 4)}, {untrimmed(0, 0, 1), untrimmed(0, 1)}, {untrimmed(2, 4, 6), whole.Of(2)},
	} {
		b := fractionBytes(c.num, c.den)
		wantNoRead(t, b)
		wantNoRead(t, append(b, 1, 2, 3, 4))
	}
}

func TestReadOfOtherSigns(t *testing.T) {
	b := ratio.Bytes(of(t, 3, 2))
	for c := 2; c < 256; c++ {
		for _, at := range []int{0, 7} { // the signs of both numbers
			odd := slices.Clone(b)
			odd[at] = byte(c)
			wantNoRead(t, odd)
		}
	}
	wantRead(t, b, of(t, 3, 2), nil)
}

func TestReadOfBytesThatEndTooSoon(t *testing.T) {
	long := api.Rat{Num: api.Int{Neg: true, Mag: slices.Repeat([]uint32{top}, 9)}, Den: api.Int{Mag: []uint32{0, 0, 1}}}
	for _, a := range []api.Rat{of(t, 0, 1), of(t, -3, 2), of(t, 1<<40, 3), long} {
		b := fractionBytes(a.Num, a.Den)
		for n := range len(b) {
			wantNoRead(t, b[:n:n])
			wantNoRead(t, b[:n]) // the room behind isn't there to be read
		}
		wantRead(t, b, a, nil)
	}
	wantNoRead(t, nil)
}

// Fractions that stand one behind the other are read one behind the other.
func TestReadOfMany(t *testing.T) {
	var all []byte
	list := some(60)
	for _, a := range list {
		all = append(all, ratio.Bytes(a)...)
	}
	for _, want := range list {
		a, rest, ok := ratio.Read(all)
		if !ok || !same(a, ratio.Plain(want)) {
			t.Fatalf("P3.4: %v %v, not %v", a, ok, want)
		}
		all = rest
	}
	wantNoRead(t, all)
}
