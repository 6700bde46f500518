package whole_test

import (
	"slices"
	"testing"

	"heijunka/api"
	"heijunka/whole"
)

// plainBytes is a sign's byte, and what layer 1 writes of that row, as the document tells it.
func plainBytes(sign byte, mag []uint32) []byte {
	out := []byte{sign, byte(len(mag)), byte(len(mag) >> 8)}
	for _, limb := range mag {
		out = append(out, byte(limb), byte(limb>>8), byte(limb>>16), byte(limb>>24))
	}
	return out
}

// signByte is what stands ahead of a's limbs.
func signByte(a api.Int) byte {
	if bigOf(a).Sign() < 0 {
		return 1
	}
	return 0
}

func wantRead(t *testing.T, b []byte, want api.Int, behind []byte) {
	t.Helper()
	room := append(slices.Clone(b), 55, 56)
	was := slices.Clone(room)
	a, rest, ok := whole.Read(room[:len(b)])
	if !slices.Equal(room, was) {
		t.Fatal("rule 3: Read changed what was handed in")
	}
	clear(room)
	if !ok || !same(a, want) || !slices.Equal(rest, behind) {
		t.Fatalf("P2.3: Read of %v bytes: %v limbs, %v behind, %v", len(b), len(a.Mag), rest, ok)
	}
}

func wantNoRead(t *testing.T, b []byte) {
	t.Helper()
	if a, rest, ok := whole.Read(b); ok || !isZero(a) || len(rest) != 0 {
		t.Fatalf("P2.3: Read of %v bytes: %v, %v bytes behind, %v", len(b), a, len(rest), ok)
	}
}

func TestBytes(t *testing.T) {
	d := dice(4)
	list := ints()
	for _, n := range []int{255, 256, 257, 4095, 4096} {
		mag := append(d.row(n), 1, 0)[1:] // the last limb that counts isn't 0
		list = append(list, api.Int{Mag: mag}, api.Int{Neg: true, Mag: mag})
	}
	for _, a := range list {
		l := lend(a)
		b := whole.Bytes(l.a)
		l.takeBack(t)
		plain := intOf(bigOf(a))
		if !slices.Equal(b, plainBytes(signByte(a), plain.Mag)) {
			t.Fatalf("P2.3: Bytes of %v limbs: %v bytes", len(a.Mag), len(b))
		}
		wantRead(t, b, plain, nil)
		wantRead(t, append(slices.Clone(b), 0), plain, []byte{0})
		wantRead(t, append(slices.Clone(b), 9, 8, 0, 7), plain, []byte{9, 8, 0, 7})
	}
}

func TestBytesExamples(t *testing.T) {
	for _, c := range []struct {
		a    api.Int
		want []byte
	}{
		{whole.Of(0), []byte{0, 0, 0}},
		{api.Int{Neg: true, Mag: []uint32{0}}, []byte{0, 0, 0}},
		{whole.Of(1), []byte{0, 1, 0, 1, 0, 0, 0}},
		{whole.Of(-258), []byte{1, 1, 0, 2, 1, 0, 0}},
		{api.Int{Neg: true, Mag: []uint32{0, 5, 0}}, []byte{1, 2, 0, 0, 0, 0, 0, 5, 0, 0, 0}},
	} {
		if b := whole.Bytes(c.a); !slices.Equal(b, c.want) {
			t.Errorf("P2.3: Bytes of %v: %v", c.a, b)
		}
	}
}

func TestBytesOfTooManyLimbs(t *testing.T) {
	for _, neg := range []bool{false, true} {
		for _, n := range []int{4097, 70000} {
			if b := whole.Bytes(api.Int{Neg: neg, Mag: slices.Repeat([]uint32{1}, n)}); len(b) != 0 {
				t.Errorf("P2.3: Bytes of %v limbs: %v bytes", n, len(b))
			}
		}
		full := append(slices.Repeat([]uint32{top}, 4096), 0, 0, 0)
		if b := whole.Bytes(api.Int{Neg: neg, Mag: full}); len(b) != 1+2+4*4096 {
			t.Errorf("P2.3: Bytes of 4096 limbs, and some 0: %v bytes", len(b))
		}
		if b := whole.Bytes(api.Int{Neg: neg, Mag: make([]uint32, 5000)}); !slices.Equal(b, []byte{0, 0, 0}) {
			t.Errorf("P2.3: Bytes of 5000 limbs 0: %v bytes", len(b))
		}
	}
}

func TestReadOfTooManyLimbs(t *testing.T) {
	for _, n := range []int{4097, 8192, 65535} {
		wantNoRead(t, plainBytes(0, slices.Repeat([]uint32{1}, n)))
		wantNoRead(t, plainBytes(1, slices.Repeat([]uint32{1}, n)))
	}
}

func TestReadOfZero(t *testing.T) {
	wantRead(t, []byte{0, 0, 0}, api.Int{}, nil)
	wantRead(t, []byte{0, 0, 0, 1, 0, 0}, api.Int{}, []byte{1, 0, 0})
	wantNoRead(t, []byte{1, 0, 0})
	wantNoRead(t, []byte{1, 0, 0, 5, 5, 5, 5})
}

func TestReadOfOtherSigns(t *testing.T) {
	for c := 2; c < 256; c++ {
		wantNoRead(t, []byte{byte(c)})
		wantNoRead(t, []byte{byte(c), 0, 0})
		wantNoRead(t, []byte{byte(c), 1, 0, 5, 0, 0, 0})
	}
	wantRead(t, []byte{1, 1, 0, 5, 0, 0, 0}, whole.Of(-5), nil)
	wantRead(t, []byte{0, 1, 0, 5, 0, 0, 0}, whole.Of(5), nil)
}

func TestReadOfBytesThatEndTooSoon(t *testing.T) {
	wantNoRead(t, nil)
	for _, mag := range [][]uint32{{7}, {1, 2, 3}, slices.Repeat([]uint32{top}, 260)} {
		for sign := range byte(2) {
			b := plainBytes(sign, mag)
			for n := range len(b) {
				wantNoRead(t, b[:n:n])
				wantNoRead(t, b[:n]) // the room behind isn't there to be read
			}
		}
	}
}

func TestReadOfUntrimmed(t *testing.T) {
	for _, mag := range [][]uint32{{0}, {0, 0}, {5, 0}, {1, 2, 0, 0}} {
		for sign := range byte(2) {
			wantNoRead(t, plainBytes(sign, mag))
			wantNoRead(t, append(plainBytes(sign, mag), 1, 2, 3, 4))
		}
	}
}

// Numbers that stand one behind the other are read one behind the other.
func TestReadOfMany(t *testing.T) {
	var all []byte
	for _, a := range ints() {
		all = append(all, whole.Bytes(a)...)
	}
	for _, want := range ints() {
		a, rest, ok := whole.Read(all)
		if !ok || !same(a, whole.Plain(want)) {
			t.Fatalf("P2.3: %v %v, not %v", a, ok, want)
		}
		all = rest
	}
	wantNoRead(t, all)
}
