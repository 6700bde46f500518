package root_test

import (
	"bytes"
	"math"
	"slices"
	"testing"

	"heijunka/api"
	"heijunka/disk"
	"heijunka/root"
)

// The document's example.
func TestOfANewDisk(t *testing.T) {
	for _, n := range []int{2, 3, 18, 511, 512} {
		d, _ := disk.New(n)
		if gen, e := root.Load(d); gen != 0 || e != api.OK {
			t.Errorf("P8.1: Load, %v sectors: %v %v", n, gen, e)
		}
	}
}

// A root's bytes, written down one by one: 258 is even, so they lie in sector 0.
func TestARootsBytes(t *testing.T) {
	d, _ := disk.New(2)
	root.Save(d, 258)
	want := append([]byte{0x71, 0xbc, 0xa1, 0x87, 2, 1, 0, 0, 0, 0, 0, 0, 0, 1, 4, 'r', 'o', 'o', 't'}, make([]byte, 45)...)
	if b, _ := d.Read(0); !bytes.Equal(b, want) {
		t.Errorf("P8.2: %v", b)
	}
	if b, _ := d.Read(1); !bytes.Equal(b, row(0)) {
		t.Errorf("P8.2: the other sector: %v", b)
	}
}

// Each generation in a sector of its own, and the other sectors are as they were.
func TestSaveOfAllGenerations(t *testing.T) {
	for _, n := range []int{2, 3, 18} {
		for _, gen := range gens() {
			p := newPair(t, n)
			for i := range n {
				p.put(i, row(byte(i+1)))
			}
			if e := p.save(gen); e != api.OK {
				t.Errorf("P8.2: Save(%v): %v", gen, e)
			}
			if got, _ := p.load(); got != gen {
				t.Errorf("P8.1: Load: %v, not %v", got, gen)
			}
		}
	}
}

// Of two saved in one sector the later one is there, of two in both the greater one counts.
func TestTheGreaterOneCounts(t *testing.T) {
	for _, a := range gens() {
		for _, b := range gens() {
			p := newPair(t, 2)
			p.save(a)
			p.save(b)
			want := b
			if a%2 != b%2 {
				want = max(a, b)
			}
			if got, _ := p.load(); got != want {
				t.Errorf("P8.1: %v, then %v: %v", a, b, got)
			}
		}
	}
}

func TestSaveOfNoGeneration(t *testing.T) {
	p := newPair(t, 2)
	for _, gen := range []uint32{0, 1, 0, 2, 0} {
		if e := p.save(gen); e == api.OK != (gen != 0) {
			t.Errorf("P8.2: Save(%v): %v", gen, e)
		}
		p.load()
	}
}

// A disk of one sector has no roots, whatever lies in it.
func TestTooSmall(t *testing.T) {
	for _, b := range [][]byte{row(0), modelRoot(1), modelRoot(2), nil} {
		p := newPair(t, 1)
		p.put(0, b)
		if gen, e := p.load(); gen != 0 || e != api.Arg {
			t.Errorf("P8.1: Load: %v %v", gen, e)
		}
		for _, gen := range append(gens(), 0) {
			if e := p.save(gen); e != api.Arg {
				t.Errorf("P8.2: Save(%v): %v", gen, e)
			}
		}
	}
}

// Load: Down comes ahead of Arg. Save: Arg comes ahead of Down.
func TestOrderOfCodes(t *testing.T) {
	for _, x := range []struct {
		sectors    int
		power      bool
		gen        uint32
		load, save api.Code
	}{
		{1, true, 0, api.Arg, api.Arg},
		{1, true, 1, api.Arg, api.Arg},
		{1, false, 0, api.Down, api.Arg},
		{1, false, 1, api.Down, api.Arg},
		{2, true, 0, api.OK, api.Arg},
		{2, true, 1, api.OK, api.OK},
		{2, false, 0, api.Down, api.Arg},
		{2, false, 1, api.Down, api.Down},
		{2, false, 2, api.Down, api.Down},
		{2, false, math.MaxUint32, api.Down, api.Down},
	} {
		p := newPair(t, x.sectors)
		p.put(0, modelRoot(8))
		if !x.power {
			p.cut()
		}
		for range 2 {
			if _, e := p.load(); e != x.load {
				t.Errorf("P8.1: %v: Load: %v", x, e)
			}
			if e := p.save(x.gen); e != x.save {
				t.Errorf("P8.2: %v: Save: %v", x, e)
			}
		}
		p.up()
		p.load()
	}
}

// kinds are sectors of all kinds that a Load tells apart; nothing: a torn one.
func kinds() [][]byte {
	l := [][]byte{nil, row(0), row(7)}
	for _, gen := range []uint32{0, 1, 2, 3, 4, 255, 256, math.MaxUint32 - 1, math.MaxUint32} {
		l = append(l, modelRoot(gen))
	}
	long := bytes.Repeat([]byte("root"), 13)[:49]
	for _, gen := range []uint32{600, 601} {
		for _, x := range []api.Cell{
			{Seq: 1, Parts: 1, Data: []byte("root")},
			{Seq: 1 << 31, Parts: 1, Data: []byte("root")},
			{Part: 1, Parts: 2, Data: []byte("root")},
			{Part: 0, Parts: 2, Data: long},
			{Part: 0, Parts: 2, Data: []byte("root")}, // no cell, though sealed
			{Part: 1, Parts: 1, Data: []byte("root")},
			{Part: 0, Parts: 0, Data: []byte("root")},
			{Parts: 1, Data: long},
			{Parts: 1, Data: []byte("roots")},
			{Parts: 1, Data: []byte("root\x00")},
			{Parts: 1, Data: []byte("roo")},
			{Parts: 1, Data: []byte("Root")},
			{Parts: 1, Data: []byte("toor")},
			{Parts: 1},
		} {
			x.Gen = gen
			l = append(l, modelSector(x))
		}
		spoilt := modelRoot(gen)
		spoilt[63] ^= 1
		l = append(l, spoilt)
	}
	return l
}

// All that may lie in the two sectors, and a root behind them that doesn't count.
func TestLoadOfAllSectors(t *testing.T) {
	p := newPair(t, 4)
	p.put(2, modelRoot(1000))
	p.put(3, modelRoot(1001))
	counts := map[uint32]int{}
	for _, a := range kinds() {
		p.put(0, a)
		for _, b := range kinds() {
			p.put(1, b)
			gen, e := p.load()
			if e != api.OK {
				t.Errorf("P8.1: Load: %v", e)
			}
			counts[gen]++
		}
	}
	for _, gen := range []uint32{0, 1, 2, 3, 4, 255, 256, math.MaxUint32 - 1, math.MaxUint32} {
		if counts[gen] == 0 {
			t.Errorf("%v: none loads so", gen)
		}
		delete(counts, gen)
	}
	if len(counts) > 0 {
		t.Errorf("P8.1: of what is no root: %v", counts)
	}
}

// Under a right sum each byte counts, in both sectors: a root it stays by another generation alone.
func TestEachByteCounts(t *testing.T) {
	for _, gen := range []uint32{6, 7} {
		own := int(gen % 2)
		p := newPair(t, 2)
		p.put(1-own, modelRoot(gen-1))
		for i := range 60 {
			for c := range 256 {
				b := modelRoot(gen)
				if b[4+i] == byte(c) {
					continue
				}
				b[4+i] = byte(c)
				p.put(own, seal(b[4:]))
				got, _ := p.load()
				switch {
				case i >= 4 && got != gen-1:
					t.Errorf("P8.1: byte %v is %v: %v", i, c, got)
				case i >= 1 && i < 4 && got != gen+uint32(c)<<(8*i):
					t.Errorf("P8.1: byte %v is %v: %v", i, c, got)
				}
			}
		}
	}
}

// Without a right sum nothing is a root, whichever bit is another one.
func TestEachBitCounts(t *testing.T) {
	for _, gen := range []uint32{6, 7} {
		own := int(gen % 2)
		p := newPair(t, 2)
		p.put(1-own, modelRoot(gen-3))
		for bit := range 512 {
			b := modelRoot(gen)
			b[bit/8] ^= 1 << (bit % 8)
			p.put(own, b)
			if got, _ := p.load(); got != gen-3 {
				t.Errorf("P8.1: bit %v: %v", bit, got)
			}
		}
	}
}

// Sectors are as reads tell them: what is pending counts, till it is lost; of what is torn, a write that is pending.
func TestLoadOfWhatIsPending(t *testing.T) {
	p := newPair(t, 2)
	p.save(3)
	p.put(0, nil)
	p.write(0, modelRoot(4))
	if gen, _ := p.load(); gen != 4 {
		t.Errorf("P8.1: %v, not 4", gen)
	}
	p.write(1, modelRoot(9))
	p.write(1, row(0))
	if gen, _ := p.load(); gen != 4 {
		t.Errorf("P8.1: %v, not 4", gen)
	}
	p.up()
	if gen, _ := p.load(); gen != 3 {
		t.Errorf("P8.1: %v, not 3", gen)
	}
}

// A Load writes nothing, flushes nothing, and counts as nothing.
func TestLoadWritesNothing(t *testing.T) {
	p := newPair(t, 3)
	p.save(1)
	p.write(2, row(9))
	p.plan(2)
	for range 5 {
		p.load()
	}
	p.write(0, row(8))
	if p.d.Down() {
		t.Errorf("P8.1: a Load counts")
	}
	p.load()
	p.flush()
	if !p.d.Down() {
		t.Errorf("P8.1: a Load has ended the plan")
	}
	p.up()
	if gen, _ := p.load(); gen != 1 {
		t.Errorf("P8.1: %v", gen)
	}
}

// A Save is one write and one flush, and one that tells Arg is none.
func TestWhatASaveCounts(t *testing.T) {
	for stop := -1; stop <= 7; stop++ {
		p := newPair(t, 3)
		p.plan(stop)
		var l []api.Code
		for _, gen := range []uint32{0, 5, 0, 6, 0, 7, 0} {
			l = append(l, p.save(gen))
		}
		want := slices.Repeat([]api.Code{api.Arg}, 7)
		for i, behind := range []int{2, 4, 6} { // so many are begun by the end of the first Save, the second one, the third one
			want[1+2*i] = api.OK
			if stop >= 1 && stop <= behind {
				want[1+2*i] = api.Down
			}
		}
		if !slices.Equal(l, want) {
			t.Errorf("P8.2: stop %v: %v, not %v", stop, l, want)
		}
		p.up(1, 1, 1)
		p.load()
	}
}

// All is flushed: what was pending ahead of a Save, too.
func TestSaveFlushesAll(t *testing.T) {
	p := newPair(t, 4)
	p.write(2, row(8))
	p.save(0) // flushes nothing
	p.write(3, row(9))
	p.save(2)
	p.up()
	p.check()
	for i, c := range []byte{8, 9} {
		if b, _ := p.d.Read(2 + i); !bytes.Equal(b, row(c)) {
			t.Errorf("P8.2: not all is flushed: %v", b)
		}
	}
}

// A torn sector is written as any other, and read again then.
func TestSaveOverATornSector(t *testing.T) {
	for gen := uint32(1); gen <= 2; gen++ {
		p := newPair(t, 2)
		p.put(0, nil)
		p.put(1, nil)
		if got, e := p.load(); got != 0 || e != api.OK {
			t.Errorf("P8.1: both are torn: %v %v", got, e)
		}
		if e := p.save(gen); e != api.OK {
			t.Errorf("P8.2: Save(%v): %v", gen, e)
		}
		if got, _ := p.load(); got != gen {
			t.Errorf("P8.1: %v, not %v", got, gen)
		}
	}
}
