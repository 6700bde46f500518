package seg_test

import (
	"math"
	"slices"
	"testing"

	"heijunka/api"
	"heijunka/disk"
)

// grounds lay what may be on a disk ahead of an Add.
func grounds() []func(pair) {
	old := [][]byte{row(31, 60), row(32, 20)}
	return []func(pair){
		func(p pair) {},
		func(p pair) { p.add(old...) },
		func(p pair) { // of another generation, its numbers greater
			for i, b := range slices.Concat(modelSplit(9, 70, row(33, 110)), modelSplit(9, 71, row(34, 110)), modelSplit(9, 72, row(34, 60))) {
				p.put(i, b)
			}
		},
		func(p pair) { // an Add was cut off: of some records behind the end the cells are there
			p.add(old...)
			p.plan(6)
			p.add(row(35, 60), row(36, 20), row(37, 60))
			p.up(0, 1, 1, 1, 2)
		},
		func(p pair) { // what would be records behind the end has lesser numbers
			p.add(old...)
			for i, b := range slices.Concat(modelSplit(1, 1, row(40, 60)), modelSplit(1, 2, row(41, 60))) {
				p.put(3+i, b)
			}
		},
		func(p pair) {
			for i := range 8 {
				p.tear(i)
			}
		},
	}
}

// choicesFor are all choices for so many pending writes.
func choicesFor(writes int) [][]byte {
	l := [][]byte{{}}
	for range writes {
		var longer [][]byte
		for _, b := range l {
			for c := range byte(3) {
				longer = append(longer, append(slices.Clone(b), c))
			}
		}
		l = longer
	}
	return l
}

// Wherever the power goes during an Add, and whatever becomes of what is pending: what was there is there, and the first ones of the records, each whole.
func TestLossDuringAnAdd(t *testing.T) {
	records := [][]byte{row(51, 60), row(52, 20), row(53, 98)}
	const writes = 5
	for ground, lay := range grounds() {
		added := [4]int{}
		for stop := 1; stop <= writes+2; stop++ {
			for _, choices := range choicesFor(min(stop-1, writes)) {
				p := newPair(t, 10, 1, 8, 1)
				p.scan()
				lay(p)
				was, _ := p.scan()
				p.plan(stop)
				e := p.add(records...)
				if (e == api.Down) != (stop <= writes+1) {
					t.Fatalf("P7.2: stop %v: %v", stop, e)
				}
				p.up(choices...)
				got, _ := p.scan()
				n := len(got) - len(was)
				if n < 0 || n > 3 || !sameRecords(got, slices.Concat(was, records[:n])) || e == api.OK && n < 3 {
					t.Fatalf("P7.3: ground %v, stop %v, choices %v: %v", ground, stop, choices, got)
				}
				added[n]++
				goOn(p, got)
			}
		}
		if slices.Min(added[:]) == 0 {
			t.Errorf("ground %v: 0, 1 .. records are there so often: %v", ground, added)
		}
	}
}

// goOn adds behind a loss, and sees to it that this comes behind what was there.
func goOn(p pair, was [][]byte) {
	p.t.Helper()
	for p.s.Free() > 0 {
		record := row(61, 1+p.s.Free()/2*30)
		was = append(was, record)
		if e := p.add(record); e != api.OK {
			p.t.Fatalf("P7.2: behind a loss: %v", e)
		}
		p.up(2, 2, 2, 2)
		if l, _ := p.scan(); !sameRecords(l, was) {
			p.t.Fatalf("P7.3: behind a loss: %v, not %v", l, was)
		}
	}
}

// Behind an Add during which the power went the end and the top aren't known, till a Scan, or a Begin, tells them.
func TestBehindALoss(t *testing.T) {
	for stop := 1; stop <= 4; stop++ {
		for _, begin := range []bool{false, true} {
			p := newPair(t, 8, 1, 6, 1)
			p.scan()
			p.add([]byte{1}, []byte{2})
			p.plan(stop)
			if e := p.add(row(3, 50), []byte{4}); e != api.Down || p.s.Free() != 6 {
				t.Fatalf("P7.1: stop %v: %v %v", stop, e, p.s.Free())
			}
			for i, power := range []api.Code{api.Down, api.OK} {
				for k, l := range [][][]byte{{nil}, {{1}}, {row(1, 392)}, {}} {
					if e, want := p.add(l...), []api.Code{api.Arg, api.Full, api.Full, power}[k]; e != want {
						t.Errorf("P7.1: stop %v: %v: %v, not %v", stop, k, e, want)
					}
				}
				if i == 0 {
					p.up(1, 1)
				}
			}
			if begin {
				p.begin()
			} else {
				p.scan()
			}
			if e := p.add([]byte{5}); e != api.OK {
				t.Errorf("P7.1: stop %v: %v", stop, e)
			}
			p.scan()
		}
	}
}

// Begun anew: what is added lies over what was, which doesn't go on from it, and its numbers are greater than all that are there.
func TestBegin(t *testing.T) {
	p := newPair(t, 8, 1, 6, 1)
	p.scan()
	p.add([]byte{1}, row(2, 60), []byte{3})
	if e := p.begin(); e != api.OK || p.s.Free() != 6 {
		t.Fatalf("P7.2: %v %v", e, p.s.Free())
	}
	if l, _ := p.scan(); !sameRecords(l, [][]byte{{1}, row(2, 60), {3}}) || p.s.Free() != 2 { // nothing was written
		t.Errorf("P7.2: %v", l)
	}
	p.begin()
	p.add([]byte{4})
	if l, _ := p.scan(); !sameRecords(l, [][]byte{{4}}) || p.s.Free() != 5 {
		t.Errorf("P7.2: %v", l)
	}
	if _, seq := numbers(p.d, 1); seq != 4 {
		t.Errorf("P7.2: number %v, not 4", seq)
	}
	p.begin()
	p.begin()
	if e := p.add(row(5, 294)); e != api.OK || p.s.Free() != 0 {
		t.Errorf("P7.2: %v %v", e, p.s.Free())
	}
	if l, _ := p.scan(); !sameRecords(l, [][]byte{row(5, 294)}) {
		t.Errorf("P7.2: %v", l)
	}
}

// A Begin ahead of the first Scan knows the top as a Scan would.
func TestBeginAheadOfTheFirstScan(t *testing.T) {
	p := newPair(t, 6, 0, 6, 1)
	p.begin()
	if e := p.add([]byte{1}, []byte{2}, []byte{3}); e != api.OK {
		t.Fatalf("P7.2: %v", e)
	}
	for _, gen := range []uint32{1, 2, 1, math.MaxUint32, 0, 7} {
		p = p.again(0, 6, gen, p.m.d)
		p.begin()
		was := modelTop(modelRead(p.d, 0, 6))
		if e := p.add([]byte{byte(gen)}); e != api.OK || p.s.Free() != 5 {
			t.Errorf("P7.2: %v %v", e, p.s.Free())
		}
		if g, seq := numbers(p.d, 0); g != gen || uint64(seq) != was+1 {
			t.Errorf("P7.2: generation %v, number %v", g, seq)
		}
		if l, _ := p.scan(); !sameRecords(l, [][]byte{{byte(gen)}}) {
			t.Errorf("P7.3: %v", l)
		}
	}
}

// Two segments on one disk don't touch each other, but that a flush of one is a flush of all.
func TestTwoSegments(t *testing.T) {
	d, _ := disk.New(8)
	twin, _ := disk.New(8)
	one := pair{t: t, d: d}.again(0, 3, 1, twin)
	two := pair{t: t, d: d}.again(3, 5, 1, twin)
	one.scan()
	two.scan()
	one.add([]byte{1})
	two.add(row(2, 60))
	one.add([]byte{3}, []byte{4})
	two.add([]byte{5})
	if e := one.add([]byte{6}); e != api.Full {
		t.Errorf("P7.2: %v", e)
	}
	if l, _ := one.scan(); !sameRecords(l, [][]byte{{1}, {3}, {4}}) {
		t.Errorf("P7.3: %v", l)
	}
	if l, _ := two.scan(); !sameRecords(l, [][]byte{row(2, 60), {5}}) || two.s.Free() != 2 {
		t.Errorf("P7.3: %v", l)
	}
}

// Long runs of all that may happen to a segment, against the model.
func TestLongRuns(t *testing.T) {
	for seed := range 300 {
		d := dice(seed)
		n := 1 + d.next(12)
		first := d.next(3)
		p := newPair(t, first+n+d.next(3), first, n, uint32(d.next(3)))
		counts := map[api.Code]int{}
		for range 300 {
			counts[step(p, &d)]++
			if d.next(40) == 0 {
				p = p.again(first, n, uint32(d.next(3)), p.m.d)
			}
		}
		if counts[api.OK] < 30 {
			t.Fatalf("a run without events: %v", counts)
		}
	}
}

func step(p pair, d *dice) api.Code {
	switch d.next(12) {
	case 0, 1:
		_, e := p.scan()
		return e
	case 2:
		return p.begin()
	case 3:
		p.plan(d.next(9))
	case 4:
		if p.d.Down() || d.next(4) == 0 {
			p.up(d.bytes(d.next(12))...)
			p.check()
		}
	case 5:
		if !p.d.Down() && d.next(3) == 0 {
			b := modelSplit(uint32(d.next(3)), uint32(d.next(50)), row(1, 1+d.next(100)))[0]
			at := d.next(p.m.n)
			for _, x := range []*disk.Disk{p.d, p.m.d} {
				x.Write(p.m.first+at, b)
			}
		}
	default:
		l := make([][]byte, d.next(4))
		for i := range l {
			l[i] = d.bytes(1 + d.next(150))
			if d.next(60) == 0 {
				l[i] = row(1, 393*d.next(2))
			}
		}
		return p.add(l...)
	}
	return api.OK
}
