package seg_test

import (
	"bytes"
	"math"
	"slices"
	"testing"

	"heijunka/api"
	"heijunka/cell"
	"heijunka/disk"
	"heijunka/seg"
)

// The document's example.
func TestThreeRecordsInFourSectors(t *testing.T) {
	d, _ := disk.New(6)
	s, _ := seg.New(d, 1, 4, 1)
	s.Scan()
	if e := s.Add([][]byte{row(1, 10), row(2, 10), row(3, 10)}); e != api.OK || s.Free() != 1 {
		t.Errorf("P7.2: %v %v", e, s.Free())
	}
}

func TestNew(t *testing.T) {
	for _, sectors := range []int{1, 2, 5, 512} {
		d, _ := disk.New(sectors)
		far := []int{math.MinInt, math.MinInt + 1, -1 << 32, -1, 0, 1, 2, 3, 4, 5, 6, 7, 511, 512, 513, 1 << 32, math.MaxInt - 1, math.MaxInt}
		for _, first := range far {
			for _, n := range far {
				there := 0 <= first && first < sectors && 1 <= n && n <= sectors && first+n <= sectors
				s, e := seg.New(d, first, n, 3)
				switch {
				case !there && (e != api.Arg || s != nil):
					t.Errorf("P7.1: New(%v sectors, %v, %v): %v %v", sectors, first, n, s, e)
				case there && (e != api.OK || s == nil || s.Free() != n):
					t.Errorf("P7.1: New(%v sectors, %v, %v): %v", sectors, first, n, e)
				}
			}
		}
	}
}

func TestGen(t *testing.T) {
	d, _ := disk.New(1)
	for _, gen := range []uint32{0, 1, 2, 255, 256, 1 << 16, 1 << 31, math.MaxUint32} {
		s, _ := seg.New(d, 0, 1, gen)
		if s.Gen() != gen {
			t.Errorf("P7.1: Gen(): %v, not %v", s.Gen(), gen)
		}
		s.Scan()
		s.Add([][]byte{{1}})
		if s.Gen() != gen {
			t.Errorf("P7.1: Gen(): %v, not %v", s.Gen(), gen)
		}
	}
}

// A segment is told of a disk without power, too; it is scanned when there is power again.
func TestNewWithoutPower(t *testing.T) {
	p := newPair(t, 4, 0, 4, 1)
	p.plan(1)
	p.d.Flush()
	p.m.d.Flush()
	p = p.again(1, 3, 2, p.m.d)
	p.check()
	for range 2 {
		if l, e := p.scan(); e != api.Down || len(l) != 0 {
			t.Errorf("P7.1: Scan without power: %v %v", l, e)
		}
	}
	if e := p.begin(); e != api.Down {
		t.Errorf("P7.2: Begin without power: %v", e)
	}
	if e := p.add(); e != api.Down {
		t.Errorf("P7.2: Add of nothing without power: %v", e)
	}
	p.up()
	p.scan()
	if e := p.add([]byte{1}); e != api.OK {
		t.Errorf("P7.2: %v", e)
	}
}

// Ahead of the first Scan nothing is free of a number: so what is there can't be written over.
func TestAheadOfTheFirstScan(t *testing.T) {
	p := newPair(t, 4, 0, 4, 1)
	p.scan()
	p.add(row(1, 60), row(2, 5))
	q := p.again(0, 4, 1, p.m.d)
	q.check()
	if q.s.Free() != 4 {
		t.Errorf("P7.1: Free() ahead of the first Scan: %v", q.s.Free())
	}
	q.plan(1)
	for i, l := range [][][]byte{{{1}}, {{1}, nil}, {nil}, {row(1, 392)}, {}, nil} {
		if e, want := q.add(l...), []api.Code{api.Full, api.Arg, api.Arg, api.Full, api.OK, api.OK}[i]; e != want {
			t.Errorf("P7.1: Add ahead of the first Scan: %v: %v", i, e)
		}
	}
	q.plan(0)
	if l, _ := q.scan(); !sameRecords(l, [][]byte{row(1, 60), row(2, 5)}) {
		t.Errorf("P7.1: %v", l)
	}
	if e := q.add([]byte{3}); e != api.OK || q.s.Free() != 0 {
		t.Errorf("P7.2: %v %v", e, q.s.Free())
	}
}

// A segment embeds its disk: what a disk does, it does, and the disk is the same one.
func TestTheDisksMethods(t *testing.T) {
	d, _ := disk.New(3)
	s, _ := seg.New(d, 1, 2, 1)
	if s.Disk != d || s.Sectors() != 3 {
		t.Errorf("ways: %v sectors", s.Sectors())
	}
	if e := s.Write(0, row(9, 64)); e != api.OK {
		t.Errorf("ways: %v", e)
	}
	if b, _ := d.Read(0); !bytes.Equal(b, row(9, 64)) {
		t.Errorf("ways: %v", b)
	}
}

func TestAddOfAllLengths(t *testing.T) {
	p := newPair(t, 12, 2, 8, 77)
	p.scan()
	for n := 1; n <= 392; n++ {
		p.begin()
		record := row(byte(n), n)
		if e := p.add(record); e != api.OK || p.s.Free() != 8-cell.Need(n) {
			t.Fatalf("P7.2: %v bytes: %v %v", n, e, p.s.Free())
		}
		if l, _ := p.scan(); len(l) == 0 || !bytes.Equal(l[0], record) {
			t.Fatalf("P7.3: %v bytes: %v", n, l)
		}
	}
}

// One that isn't a record is told wherever it is in the list, and whatever else is wrong; none of the others is written then.
func TestAddOfWhatIsNoRecord(t *testing.T) {
	for _, bad := range [][]byte{nil, {}, row(1, 393), row(1, 394), row(1, 441), row(1, 1<<20)} {
		for n := range 7 {
			for at := range n + 1 {
				p := newPair(t, 6, 1, 4, 2)
				for range 2 {
					l := slices.Repeat([][]byte{row(5, 20)}, n)
					if e := p.add(slices.Insert(l, at, bad)...); e != api.Arg {
						t.Errorf("P7.2: %v bytes: %v", len(bad), e)
					}
					p.scan()
				}
				if e := p.add([]byte{1}); e != api.OK {
					t.Errorf("P7.2: behind Arg: %v", e)
				}
			}
		}
	}
}

// Records fit just as long as there are sectors for all their cells.
func TestWhatFits(t *testing.T) {
	for n := 1; n <= 10; n++ {
		for first := range 3 {
			for was := range n + 1 {
				for cells := range 12 {
					p := newPair(t, n+3, first, n, 1)
					p.scan()
					p.add(slices.Repeat([][]byte{{9}}, was)...)
					var l [][]byte
					for left := cells; left > 0; left -= 3 {
						l = append(l, row(byte(left), min(left, 3)*49))
					}
					want := api.OK
					if was+cells > n {
						want = api.Full
					}
					p.plan(cells + 2)
					if e := p.add(l...); e != want {
						t.Fatalf("P7.2: %v cells, %v of %v are used: %v", cells, was, n, e)
					}
					if want == api.Full && p.s.Free() != n-was {
						t.Fatalf("P7.2: Full has changed what is free: %v", p.s.Free())
					}
					p.scan()
				}
			}
		}
	}
}

// Nothing is flushed, if nothing is added: what is pending stays so.
func TestAddOfNothing(t *testing.T) {
	for _, full := range []bool{false, true} {
		p := newPair(t, 3, 0, 2, 1)
		p.scan()
		if full {
			p.add([]byte{1}, []byte{2})
		}
		p.d.Write(2, row(9, 64))
		p.m.d.Write(2, row(9, 64))
		p.plan(1)
		for _, l := range [][][]byte{nil, {}} {
			if e := p.add(l...); e != api.OK {
				t.Errorf("P7.2: Add of nothing: %v", e)
			}
		}
		p.up()
		p.check()
		if b, _ := p.d.Read(2); !bytes.Equal(b, row(0, 64)) {
			t.Errorf("P7.2: Add of nothing has flushed: %v", b)
		}
	}
}

// All is flushed: what was pending ahead of an Add, too.
func TestAddFlushesAll(t *testing.T) {
	p := newPair(t, 3, 0, 2, 1)
	p.scan()
	p.d.Write(2, row(9, 64))
	p.m.d.Write(2, row(9, 64))
	p.add([]byte{1})
	p.up()
	p.check()
	if b, _ := p.d.Read(2); !bytes.Equal(b, row(9, 64)) {
		t.Errorf("P7.2: not all is flushed: %v", b)
	}
}

// Numbers go up to 2^32 - 1, and no further, whichever sector says the greatest one.
func TestTheGreatestNumbers(t *testing.T) {
	for _, top := range []uint32{0, 1, math.MaxUint32 - 3, math.MaxUint32 - 2, math.MaxUint32 - 1, math.MaxUint32} {
		for n := range 6 {
			for at := range 12 {
				p := newPair(t, 12, 0, 12, 5)
				p.put(at, modelSplit(5, top, []byte{1})[0])
				p.scan()
				want := api.OK
				if uint64(top)+uint64(n) > math.MaxUint32 {
					want = api.Full
				}
				if e := p.add(slices.Repeat([][]byte{row(2, 60)}, n)...); e != want {
					t.Errorf("P7.2: top %v, and %v records: %v", top, n, e)
				}
				if e := p.add([]byte{1}, nil); e != api.Arg {
					t.Errorf("P7.2: top %v: %v", top, e)
				}
				p.scan()
				p.add([]byte{3})
			}
		}
	}
}

// Arg comes ahead of Full, Full ahead of Down; Arg and Full change nothing, and begin no write.
func TestOrderOfCodes(t *testing.T) {
	p := newPair(t, 4, 0, 4, 1)
	p.scan()
	p.add([]byte{1})
	p.plan(1)
	for _, l := range [][][]byte{{row(1, 147), nil}, {nil, row(1, 147)}, {row(1, 148), nil}, {nil, row(1, 148)}} {
		if e := p.add(l...); e != api.Arg {
			t.Errorf("P7.2: with power: %v", e)
		}
	}
	if e := p.add(row(1, 148)); e != api.Full {
		t.Errorf("P7.2: with power: %v", e)
	}
	p.d.Flush()
	p.m.d.Flush()
	for i, l := range [][][]byte{{row(1, 147), nil}, {row(1, 148), nil}, {row(1, 148)}, {row(1, 147)}, {}} {
		if e, want := p.add(l...), []api.Code{api.Arg, api.Arg, api.Full, api.Down, api.Down}[i]; e != want {
			t.Errorf("P7.2: without power: %v: %v, not %v", i, e, want)
		}
	}
	p.up()
	if e := p.add([]byte{2}); e != api.OK || p.s.Free() != 2 {
		t.Errorf("P7.1: the power didn't go during an Add: %v %v", e, p.s.Free())
	}
}
