package ledger_test

import (
	"bytes"
	"math"
	"slices"
	"testing"

	"heijunka/api"
)

// These are all its records then, in the other half, of the next generation, and it goes on from there.
func TestCompact(t *testing.T) {
	p := newPair(t, 23)
	a, b, c := row(1, 60), row(2, 49), row(3, 150)
	for i, l := range [][][]byte{{a}, {a, b}, nil, {c}, {c, b, a, a}, nil, nil, {b}, {row(4, 392), a}} {
		p.append([]byte{byte(i)})
		if e := p.compact(l...); e != api.OK {
			t.Fatalf("P9.3: %v: %v", i, e)
		}
		need := 0
		for _, record := range l {
			need += (len(record) + 48) / 49
		}
		for range 2 {
			if got := p.l.Records(); !sameRecords(got, l) || p.l.Gen() != uint32(i+1) || p.l.Used() != need || p.l.Free() != 10-need {
				t.Fatalf("P9.3: %v: %v %v %v %v", i, got, p.l.Gen(), p.l.Used(), p.l.Free())
			}
			p.up()
			p.open()
		}
	}
}

// What a Compact begins: its cells, a flush, its root, a flush; if there are none, 64 bytes 0 instead, whatever lies there.
func TestWhatACompactCounts(t *testing.T) {
	for _, x := range []struct {
		records [][]byte
		begun   int
	}{
		{nil, 4},
		{[][]byte{{1}}, 4},
		{[][]byte{{1}, {2}}, 5},
		{[][]byte{row(1, 392)}, 11},
		{[][]byte{row(1, 50), {1}}, 6},
	} {
		for round := range 3 {
			for stop := 1; stop <= x.begun+2; stop++ {
				p := newPair(t, 20)
				for range round {
					p.compact([]byte{1})
				}
				p.plan(stop)
				if e := p.compact(x.records...); e == api.OK != (stop > x.begun) {
					t.Errorf("P9.3: %v records, stop %v: %v", len(x.records), stop, e)
				}
				p.up(1, 2, 0, 1)
				p.open()
			}
		}
	}
}

// Of none the first sector is 0 then; the others are as they were.
func TestCompactToNone(t *testing.T) {
	for _, was := range [][]byte{nil, row(9, 64), modelSplit(1, 1, []byte{7})[0], modelSplit(1, 1, row(7, 98))[0], modelSplit(3, 9, []byte{7})[0]} {
		p := newDisks(t, 18)
		p.put(10, was)
		p.put(11, modelSplit(1, 5, []byte{8})[0], modelSplit(1, 6, []byte{9})[0])
		p.open()
		p.append([]byte{1})
		p.compact()
		if b, e := p.d.Read(10); e != api.OK || !bytes.Equal(b, make([]byte, 64)) {
			t.Errorf("P9.3: %v %v", b, e)
		}
		for range 2 {
			if l := p.l.Records(); len(l) != 0 || p.l.Used() != 0 || p.l.Gen() != 1 {
				t.Errorf("P9.3: %v %v %v", l, p.l.Used(), p.l.Gen())
			}
			p.open()
		}
		p.append(row(2, 20))
		p.open()
		if l := p.l.Records(); !sameRecords(l, [][]byte{row(2, 20)}) {
			t.Errorf("P9.4: %v", l)
		}
	}
}

// What a Compact that was cut off left there doesn't count, whatever comes over it.
func TestOverWhatWasCutOff(t *testing.T) {
	left := [][]byte{row(1, 20), row(2, 98), {3}, {4}}
	for _, root := range []byte{0, 2} {
		for _, l := range [][][]byte{nil, {{5}}, {row(6, 60)}, {{7}, {8}, {9}}, {row(7, 147)}, {{1}, {2}, {3}, {4}, {5}, {6}, {7}, {8}}} {
			for _, more := range [][]byte{nil, {10}, row(11, 60), row(12, 99)} {
				p := newPair(t, 18)
				p.append([]byte{99})
				p.plan(8) // all cells are flushed, and the root is pending
				p.compact(left...)
				p.up(root)
				p.open()
				p.compact(l...)
				want := l
				if e := p.append(more); e == api.OK {
					want = append(slices.Clone(l), more)
				}
				p.up()
				p.open()
				if got := p.l.Records(); !sameRecords(got, want) || p.l.Gen() != 1 {
					t.Errorf("P9.4: %v %v, not %v", p.l.Gen(), got, want)
				}
			}
		}
	}
}

// One that isn't a record is told wherever it is in the list, and whatever else is wrong.
func TestCompactOfWhatIsNoRecord(t *testing.T) {
	for _, bad := range [][]byte{nil, {}, row(1, 393), row(1, 394), row(1, 1<<20)} {
		for _, n := range []int{0, 1, 2, 8, 9, 199, 200, 201, 300} {
			for _, at := range []int{0, n / 2, n} {
				p := newPair(t, 18)
				p.append([]byte{1})
				p.plan(1)
				if e := p.compact(slices.Insert(slices.Repeat([][]byte{{5}}, n), at, bad)...); e != api.Arg {
					t.Errorf("P9.3: %v bytes at %v of %v: %v", len(bad), at, n, e)
				}
				p.plan(0)
				if e := p.append([]byte{2}); e != api.OK || p.l.Gen() != 0 {
					t.Errorf("P9.3: behind Arg: %v %v", e, p.l.Gen())
				}
			}
		}
	}
}

// Records fit in a half just as long as there are sectors for all their cells, and they are 200 at most.
func TestWhatFitsInAHalf(t *testing.T) {
	for _, x := range []struct {
		sectors int
		records [][]byte
		want    api.Code
	}{
		{18, slices.Repeat([][]byte{{1}}, 8), api.OK},
		{18, slices.Repeat([][]byte{{1}}, 9), api.Full},
		{18, [][]byte{row(1, 392)}, api.OK},
		{18, [][]byte{row(1, 392), {1}}, api.Full},
		{18, [][]byte{row(1, 343), {1}}, api.OK},
		{19, slices.Repeat([][]byte{{1}}, 9), api.Full},
		{20, slices.Repeat([][]byte{{1}}, 9), api.OK},
		{23, slices.Repeat([][]byte{row(1, 50)}, 5), api.OK},
		{23, slices.Repeat([][]byte{row(1, 50)}, 6), api.Full},
		{512, slices.Repeat([][]byte{{1}}, 200), api.OK},
		{512, slices.Repeat([][]byte{{1}}, 201), api.Full},
		{512, slices.Repeat([][]byte{{1}}, 255), api.Full},
		{512, slices.Repeat([][]byte{{1}}, 256), api.Full},
		{512, slices.Repeat([][]byte{row(1, 50)}, 127), api.OK},
		{512, slices.Repeat([][]byte{row(1, 50)}, 128), api.Full},
		{512, append(slices.Repeat([][]byte{row(1, 50)}, 55), slices.Repeat([][]byte{{1}}, 145)...), api.OK},
		{512, append(slices.Repeat([][]byte{row(1, 50)}, 56), slices.Repeat([][]byte{{1}}, 144)...), api.Full},
	} {
		p := newPair(t, x.sectors)
		p.append([]byte{7})
		for gen := range 2 { // in each half
			if x.want == api.Full {
				p.plan(1)
			}
			if e := p.compact(x.records...); e != x.want {
				t.Errorf("P9.3: %v sectors, %v records, generation %v: %v", x.sectors, len(x.records), gen, e)
			}
			p.plan(0)
			if x.want == api.Full {
				if l := p.l.Records(); !sameRecords(l, [][]byte{{7}}) {
					t.Errorf("P9.3: Full has changed the records: %v", l)
				}
				p.compact([]byte{7})
			}
			p.open()
		}
	}
}

// Behind the last generation there is none; its ledger may still be appended to.
func TestTheGreatestGenerations(t *testing.T) {
	p := newDisks(t, 18)
	gen := uint32(math.MaxUint32 - 3)
	p.put(int(gen%2), modelRoot(gen))
	p.open()
	for gen < math.MaxUint32 {
		gen++
		if e := p.compact([]byte{byte(gen)}); e != api.OK || p.l.Gen() != gen {
			t.Fatalf("P9.3: generation %v: %v %v", gen, e, p.l.Gen())
		}
		p.open()
	}
	for range 2 {
		for i, e := range []api.Code{p.compact([]byte{1}), p.compact(), p.compact(nil), p.compact(slices.Repeat([][]byte{{1}}, 201)...)} {
			if e != []api.Code{api.Full, api.Full, api.Arg, api.Full}[i] {
				t.Errorf("P9.3: behind the last generation: %v: %v", i, e)
			}
		}
		if e := p.append([]byte{2}); e != api.OK || p.l.Gen() != gen {
			t.Errorf("P9.2: in the last generation: %v %v", e, p.l.Gen())
		}
		p.open()
	}
	if l := p.l.Records(); !sameRecords(l, [][]byte{{255}, {2}, {2}}) {
		t.Errorf("P9.4: %v", l)
	}
	p.cut()
	if e := p.compact([]byte{1}); e != api.Full {
		t.Errorf("P9.3: Full comes ahead of Down: %v", e)
	}
	if e := p.compact(); e != api.Full {
		t.Errorf("P9.3: Full comes ahead of Down: %v", e)
	}
}

// As many sectors are used as the records need, however often one has compacted.
func TestCompactAgainAndAgain(t *testing.T) {
	p := newPair(t, 40)
	d := dice(5)
	for i := range 500 {
		var l [][]byte
		need := 0
		for range d.next(6) {
			record := d.bytes(1 + d.next(150))
			need += (len(record) + 48) / 49
			l = append(l, record)
		}
		if e := p.compact(l...); e != api.OK || p.l.Used() != need || p.l.Gen() != uint32(i+1) {
			t.Fatalf("P9.4: %v: %v, %v sectors, not %v", i, e, p.l.Used(), need)
		}
		if d.next(3) == 0 {
			p.append(d.bytes(1 + d.next(50)))
		}
		if d.next(2) == 0 {
			was := p.l.Records()
			p.up()
			p.open()
			if !sameRecords(p.l.Records(), was) {
				t.Fatalf("P9.4: %v: %v, not %v", i, p.l.Records(), was)
			}
		}
	}
}
