package nat_test

import (
	"slices"
	"testing"

	"heijunka/nat"
)

// plainBytes is what Bytes writes, as the document tells it.
func plainBytes(a []uint32) []byte {
	out := []byte{byte(len(a)), byte(len(a) >> 8)}
	for _, limb := range a {
		out = append(out, byte(limb), byte(limb>>8), byte(limb>>16), byte(limb>>24))
	}
	return out
}

func TestBytes(t *testing.T) {
	d := dice(6)
	list := append(rows(), []uint32{0x04030201, 0x08070605}, d.row(255), d.row(256), d.row(257), d.row(4095), d.row(4096))
	for _, a := range list {
		h := hold(a)
		trimmed := limbsOf(bigOf(a))
		b := nat.Bytes(h.row())
		if !slices.Equal(b, plainBytes(trimmed)) {
			t.Fatalf("P1.3: Bytes of %v limbs: %v bytes", len(a), len(b))
		}
		h.check(t, "Bytes")
		wantRead(t, b, trimmed, nil)
		wantRead(t, append(slices.Clone(b), 0), trimmed, []byte{0})
		wantRead(t, append(slices.Clone(b), 9, 8, 0, 7), trimmed, []byte{9, 8, 0, 7})
	}
}

func wantRead(t *testing.T, b []byte, want []uint32, behind []byte) {
	t.Helper()
	room := append(slices.Clone(b), 55, 56)
	was := slices.Clone(room)
	a, rest, ok := nat.Read(room[:len(b)])
	if !ok || !slices.Equal(a, want) || !slices.Equal(rest, behind) {
		t.Fatalf("P1.3: Read of %v bytes: %v limbs, %v behind, %v", len(b), len(a), rest, ok)
	}
	if !slices.Equal(room, was) {
		t.Fatal("Read changed what was handed in")
	}
}

func wantNoRead(t *testing.T, b []byte) {
	t.Helper()
	if a, rest, ok := nat.Read(b); ok || len(a) != 0 || len(rest) != 0 {
		t.Fatalf("P1.3: Read of %v bytes: %v limbs, %v bytes behind, %v", len(b), len(a), len(rest), ok)
	}
}

func TestBytesOfTooManyLimbs(t *testing.T) {
	full := slices.Repeat([]uint32{top}, 4097)
	if b := nat.Bytes(full); len(b) != 0 {
		t.Errorf("P1.3: 4097 limbs: %v bytes", len(b))
	}
	if b := nat.Bytes(slices.Repeat([]uint32{1}, 70000)); len(b) != 0 {
		t.Errorf("P1.3: 70000 limbs: %v bytes", len(b))
	}
	if b := nat.Bytes(full[:4096]); len(b) != 2+4*4096 {
		t.Errorf("P1.3: 4096 limbs: %v bytes", len(b))
	}
	// Limbs 0 at the end don't count.
	full[4096] = 0
	if b := nat.Bytes(append(full, 0, 0, 0)); len(b) != 2+4*4096 {
		t.Errorf("P1.3: 4096 limbs, and some 0: %v bytes", len(b))
	}
	if b := nat.Bytes(make([]uint32, 5000)); !slices.Equal(b, []byte{0, 0}) {
		t.Errorf("P1.3: 5000 limbs 0: %v bytes", len(b))
	}
}

func TestReadOfTooManyLimbs(t *testing.T) {
	for _, n := range []int{4097, 4352, 8192, 65535} {
		wantNoRead(t, plainBytes(slices.Repeat([]uint32{1}, n)))
	}
}

func TestReadOfBytesThatEndTooSoon(t *testing.T) {
	for _, a := range [][]uint32{nil, {7}, {1, 2, 3}, slices.Repeat([]uint32{top}, 260)} {
		b := plainBytes(a)
		for n := range len(b) {
			wantNoRead(t, b[:n])
		}
	}
	wantNoRead(t, nil)
	wantNoRead(t, []byte{0})
	wantNoRead(t, []byte{255, 255})
	wantNoRead(t, []byte{0, 16})
}

func TestReadOfUntrimmed(t *testing.T) {
	for _, a := range [][]uint32{{0}, {0, 0}, {5, 0}, {1, 2, 0, 0}} {
		wantNoRead(t, plainBytes(a))
		wantNoRead(t, append(plainBytes(a), 1, 2, 3, 4))
	}
	wantRead(t, plainBytes([]uint32{0, 1}), []uint32{0, 1}, nil)
	wantRead(t, plainBytes([]uint32{0, 1 << 24}), []uint32{0, 1 << 24}, nil)
}

// Numbers that stand one behind the other are read one behind the other.
func TestReadOfMany(t *testing.T) {
	var all []byte
	for _, a := range rows() {
		all = append(all, nat.Bytes(a)...)
	}
	for _, want := range rows() {
		a, rest, ok := nat.Read(all)
		if !ok || nat.Cmp(a, want) != 0 {
			t.Fatalf("P1.3: %v %v, not %v", a, ok, want)
		}
		all = rest
	}
	wantNoRead(t, all)
}
