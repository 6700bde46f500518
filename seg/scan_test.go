package seg_test

import (
	"bytes"
	"math"
	"slices"
	"testing"

	"heijunka/api"
	"heijunka/disk"
)

// kinds are sectors of all kinds that a scan of generation 1 tells apart; nothing: a torn one.
func kinds() [][]byte {
	one, two, three := row(21, 60), row(22, 98), row(23, 99)
	l := [][]byte{nil, make([]byte, 64)}
	l = append(l, modelSplit(1, 1, []byte{11})[0], modelSplit(1, 2, row(12, 49))[0], modelSplit(1, 0, []byte{13})[0])
	l = append(l, modelSplit(2, 9, []byte{14})[0])
	l = append(l, modelSplit(1, 2, one)...)
	l = append(l, modelSplit(1, 3, two)...)
	l = append(l, modelSplit(1, 3, three)...)
	l = append(l, modelSector(api.Cell{Gen: 1, Seq: 8, Parts: 2, Data: []byte{1}})) // no cell, though sealed
	spoilt := modelSplit(1, 7, []byte{15})[0]
	spoilt[63] ^= 1
	return append(l, spoilt)
}

// All that may lie in four sectors, between two others that would go on from them.
func TestScanOfAllSectors(t *testing.T) {
	l := kinds()
	base := newPair(t, 6, 1, 4, 1)
	base.put(-1, l[6])
	base.put(4, l[7])
	total := 1
	for range 4 {
		total *= len(l)
	}
	counts := [5]int{}
	was := [4]int{}
	for k := range total {
		for i := range 4 {
			kind := k % len(l)
			k /= len(l)
			if kind == was[i] && kind != 0 {
				continue
			}
			was[i] = kind
			if l[kind] == nil {
				base.tear(i)
			} else {
				base.put(i, l[kind])
			}
		}
		p := base.again(1, 4, 1, base.m.d)
		records, e := p.scan()
		if e != api.OK {
			t.Fatalf("P7.1: %v", e)
		}
		counts[len(records)]++
	}
	if slices.Min(counts[:3]) < 100 {
		t.Errorf("of %v segments these have 0, 1 .. records: %v", total, counts)
	}
}

// What follows what, one by one.
func TestWhichRecordsFollow(t *testing.T) {
	a, b, long := []byte{1}, row(2, 49), row(3, 50)
	cut := modelSplit(4, 9, long)
	for i, x := range []struct {
		sectors [][]byte
		want    [][]byte
		top     uint32
	}{
		{nil, nil, 0},
		{modelSplit(4, 1, a), [][]byte{a}, 1},
		{modelSplit(4, 0, a), nil, 0},
		{modelSplit(4, math.MaxUint32, a), [][]byte{a}, math.MaxUint32},
		{modelSplit(5, 7, a), nil, 7},
		{modelSplit(3, 7, a), nil, 7},
		{slices.Concat(modelSplit(4, 1, a), modelSplit(4, 2, b), modelSplit(4, 3, long)), [][]byte{a, b, long}, 3},
		{slices.Concat(modelSplit(4, 5, a), modelSplit(4, 500, b), modelSplit(4, 1<<31, long)), [][]byte{a, b, long}, 1 << 31},
		{slices.Concat(modelSplit(4, 5, a), modelSplit(4, 5, b)), [][]byte{a}, 5},
		{slices.Concat(modelSplit(4, 5, a), modelSplit(4, 4, b), modelSplit(4, 6, b)), [][]byte{a}, 6},
		{slices.Concat(modelSplit(4, 5, a), modelSplit(5, 9, b), modelSplit(4, 7, b)), [][]byte{a}, 9},
		{slices.Concat(modelSplit(4, 5, a), [][]byte{make([]byte, 64)}, modelSplit(4, 7, b)), [][]byte{a}, 7},
		{cut, [][]byte{long}, 9},
		{cut[:1], nil, 9},
		{cut[1:], nil, 9},
		{[][]byte{cut[1], cut[0]}, nil, 9},
		{[][]byte{cut[0], cut[0], cut[1]}, nil, 9},
		{[][]byte{cut[0], make([]byte, 64), cut[1]}, nil, 9},
		{[][]byte{cut[0], modelSplit(4, 8, long)[1]}, nil, 9},
		{[][]byte{cut[0], modelSplit(4, 10, long)[1]}, nil, 10},
		{[][]byte{cut[0], modelSplit(5, 9, long)[1]}, nil, 9},
		{[][]byte{cut[0], modelSplit(4, 9, row(3, 99))[1], cut[1]}, nil, 9},
		{slices.Concat(cut[:1], modelSplit(4, 10, a)), nil, 10},
	} {
		p := newPair(t, 8, 2, 5, 4)
		for k, b := range x.sectors {
			p.put(k, b)
		}
		got, e := p.scan()
		if e != api.OK || !sameRecords(got, x.want) {
			t.Errorf("P7.1: %v: %v %v, not %v", i, got, e, x.want)
		}
		if e := p.add(a); x.top == math.MaxUint32 != (e == api.Full) {
			t.Errorf("P7.1: %v: top %v: %v", i, x.top, e)
		}
		p.begin()
		if e := p.add(b); e == api.OK {
			if _, seq := numbers(p.d, 2); seq != x.top+2 {
				t.Errorf("P7.2: %v: top %v, number %v", i, x.top, seq)
			}
		}
	}
}

// numbers are the generation and the number that a sector says.
func numbers(d *disk.Disk, i int) (gen, seq uint32) {
	b, _ := d.Read(i)
	for k := range 4 {
		gen |= uint32(b[4+k]) << (8 * k)
		seq |= uint32(b[8+k]) << (8 * k)
	}
	return gen, seq
}

// A record of which the last cell lies behind the segment is none of its, and a cell ahead of it, or behind it, is none that counts for the top.
func TestBesideTheSegment(t *testing.T) {
	p := newPair(t, 9, 3, 3, 1)
	long := modelSplit(1, 50, row(7, 392))
	for i := -3; i < 6; i++ {
		if i >= 0 && i < 3 {
			p.put(i, long[i])
		} else {
			p.put(i, modelSplit(1, 1000, []byte{byte(i)})[0])
		}
	}
	for i := 3; i < 6; i++ {
		p.put(i, long[i])
	}
	if l, e := p.scan(); e != api.OK || len(l) != 0 || p.s.Free() != 3 {
		t.Errorf("P7.1: %v %v", l, e)
	}
	p.put(3, modelSplit(1, 1000, []byte{1})[0])
	p.scan()
	p.add(row(1, 147))
	if gen, seq := numbers(p.d, 3); gen != 1 || seq != 51 {
		t.Errorf("P7.1: %v %v", gen, seq)
	}
	if l, _ := p.scan(); !sameRecords(l, [][]byte{row(1, 147)}) || p.s.Free() != 0 {
		t.Errorf("P7.2: %v", l)
	}
}

// The whole of the greatest disk, records of all lengths.
func TestAWholeDisk(t *testing.T) {
	p := newPair(t, 512, 0, 512, 1)
	p.scan()
	d := dice(1)
	var want [][]byte
	for p.s.Free() >= 8 {
		record := d.bytes(1 + d.next(392))
		want = append(want, record)
		p.add(record)
	}
	p.add(row(1, p.s.Free()*49))
	want = append(want, row(1, 512*49)[:49*(512-used(want))])
	if l, _ := p.scan(); !sameRecords(l, want) || p.s.Free() != 0 {
		t.Errorf("P7.3: %v records, not %v", len(l), len(want))
	}
	p.begin()
	p.add(slices.Repeat([][]byte{{1}}, 512)...)
	if l, _ := p.scan(); len(l) != 512 || p.s.Free() != 0 {
		t.Errorf("P7.3: %v records", len(l))
	}
	if e := p.add([]byte{1}); e != api.Full {
		t.Errorf("P7.2: %v", e)
	}
}

// used: how many sectors records take.
func used(records [][]byte) int {
	n := 0
	for _, b := range records {
		n += (len(b) + 48) / 49
	}
	return n
}

// Sectors are as reads tell them: what is pending is scanned, and gone when the power is.
func TestScanOfWhatIsPending(t *testing.T) {
	p := newPair(t, 3, 0, 3, 1)
	p.put(0, modelSplit(1, 1, []byte{1})[0])
	for _, d := range []*disk.Disk{p.d, p.m.d} {
		d.Write(1, modelSplit(1, 2, []byte{2})[0])
	}
	if l, _ := p.scan(); !sameRecords(l, [][]byte{{1}, {2}}) {
		t.Errorf("P7.1: %v", l)
	}
	p.up()
	if l, _ := p.scan(); !sameRecords(l, [][]byte{{1}}) {
		t.Errorf("P7.1: %v", l)
	}
}

// A Scan, and a Begin, write nothing, flush nothing, and count as nothing.
func TestScanWritesNothing(t *testing.T) {
	p := newPair(t, 3, 0, 3, 1)
	p.scan()
	p.add([]byte{1}, []byte{2})
	for _, d := range []*disk.Disk{p.d, p.m.d} {
		d.Write(1, row(9, 64))
	}
	p.plan(1)
	for range 3 {
		p.scan()
		p.begin()
	}
	p.up()
	if l, e := p.scan(); e != api.OK || !sameRecords(l, [][]byte{{1}, {2}}) {
		t.Errorf("P7.1: %v %v", l, e)
	}
}

// A Scan without power leaves the end and the top as they are known.
func TestScanWithoutPower(t *testing.T) {
	p := newPair(t, 5, 0, 5, 1)
	p.scan()
	p.add([]byte{1}, []byte{2})
	p.plan(1)
	p.d.Flush()
	p.m.d.Flush()
	if l, e := p.scan(); e != api.Down || l != nil || p.s.Free() != 3 {
		t.Errorf("P7.1: %v %v %v", l, e, p.s.Free())
	}
	if e := p.begin(); e != api.Down || p.s.Free() != 3 {
		t.Errorf("P7.2: %v %v", e, p.s.Free())
	}
	p.up()
	p.add([]byte{3})
	if l, _ := p.scan(); !sameRecords(l, [][]byte{{1}, {2}, {3}}) {
		t.Errorf("P7.3: %v", l)
	}
}

// Each Scan answers memory of its own.
func TestRecordsShareNothing(t *testing.T) {
	p := newPair(t, 4, 0, 4, 1)
	p.scan()
	p.add(row(1, 60), row(2, 20))
	one, _ := p.s.Scan()
	two, _ := p.s.Scan()
	for i, b := range one {
		_ = append(b, 1, 2, 3)
		clear(b[:cap(b)])
		one[i] = nil
	}
	if !sameRecords(two, [][]byte{row(1, 60), row(2, 20)}) {
		t.Errorf("rule 3: %v", two)
	}
	p.check()
	if !bytes.Equal(two[0][:1], []byte{1}) {
		t.Errorf("rule 3: %v", two[0])
	}
}
