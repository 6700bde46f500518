package ledger_test

import (
	"bytes"
	"math"
	"slices"
	"testing"

	"heijunka/api"
	"heijunka/disk"
	"heijunka/ledger"
)

// The document's example.
func TestHalvesOfEightSectors(t *testing.T) {
	d, _ := disk.New(18)
	l, e := ledger.Open(d)
	if e != api.OK || l.Free() != 8 || l.Used() != 0 || l.Gen() != 0 || len(l.Records()) != 0 {
		t.Errorf("P9.1: %v %v", e, l)
	}
}

// A disk of less than 18 sectors has no ledger, power or not; the halves of others are as long as they can be.
func TestOpenOfAllSizes(t *testing.T) {
	for n := 1; n <= 512; n++ {
		p := newDisks(t, n)
		want := api.OK
		if n < 18 {
			want = api.Arg
		}
		if e := p.open(); e != want || e == api.OK && p.l.Free() != (n-2)/2 {
			t.Errorf("P9.1: Open, %v sectors: %v", n, e)
		}
		p.cut()
		if want == api.OK {
			want = api.Down
		}
		if e := p.open(); e != want {
			t.Errorf("P9.1: Open without power, %v sectors: %v", n, e)
		}
	}
}

// Both halves lie where they belong, whole, on disks of even and of odd sizes.
func TestWhereTheHalvesLie(t *testing.T) {
	for _, n := range []int{18, 19, 20, 21, 23, 512} {
		p := newDisks(t, n)
		p.put(n-1, row(99, 64)) // of an odd disk this is nobody's
		p.open()
		for gen := range 4 {
			half := (n - 2) / 2
			for p.l.Free() > 0 && len(p.l.Records()) < 200 {
				p.append(row(byte(gen), 1+49*min(7, p.l.Free()-1)))
			}
			if b, _ := p.d.Read(2 + gen%2*half); p.l.Used() == half && b[15] != byte(gen) {
				t.Errorf("P9.1: %v sectors, generation %v: its first sector is %v", n, gen, b)
			}
			p.open()
			p.compact()
		}
		if b, _ := p.d.Read(n - 1); n%2 == 1 && !bytes.Equal(b, row(99, 64)) {
			t.Errorf("P9.1: %v sectors: the last one was written", n)
		}
	}
}

// Open writes nothing, flushes nothing, and counts as nothing; so do the calls that only tell.
func TestOpenWritesNothing(t *testing.T) {
	p := newPair(t, 20)
	p.append(row(1, 60))
	p.compact([]byte{1}, []byte{2})
	p.write(6, row(9, 64))
	p.plan(1)
	for range 5 {
		if e := p.open(); e != api.OK {
			t.Fatalf("P9.1: Open: %v", e)
		}
	}
	if p.d.Down() {
		t.Errorf("P9.1: an Open counts")
	}
	p.flush()
	if !p.d.Down() {
		t.Errorf("P9.1: an Open has ended the plan")
	}
	p.up()
	p.open()
	if b, _ := p.d.Read(6); bytes.Equal(b, row(9, 64)) {
		t.Errorf("P9.1: an Open has flushed")
	}
}

// What lies on a disk, however it came there: the root says which half counts, and of which generation its cells must be.
func TestOpenOfWhatLiesThere(t *testing.T) {
	a, b := row(11, 60), row(12, 20)
	const one, two = 2, 10 // the halves
	for i, x := range []struct {
		lay  func(p *pair)
		gen  uint32
		want [][]byte
	}{
		{func(p *pair) {}, 0, nil},
		{func(p *pair) { p.put(one, modelSplit(0, 1, a)...) }, 0, [][]byte{a}},
		{func(p *pair) { p.put(two, modelSplit(0, 1, a)...) }, 0, nil},
		{func(p *pair) { p.put(two, modelSplit(1, 1, a)...) }, 0, nil},
		{func(p *pair) { p.put(one, modelSplit(1, 1, a)...); p.put(1, modelRoot(1)) }, 1, nil},
		{func(p *pair) { p.put(two, modelSplit(1, 1, a)...); p.put(1, modelRoot(1)) }, 1, [][]byte{a}},
		{func(p *pair) { p.put(two, modelSplit(1, 1, a)...); p.put(0, modelRoot(1)) }, 0, nil},
		{func(p *pair) { p.put(two, modelSplit(1, 1, a)...); p.put(1, modelRoot(3)) }, 3, nil},
		{func(p *pair) { p.put(one, modelSplit(2, 1, a)...); p.put(0, modelRoot(2), modelRoot(1)) }, 2, [][]byte{a}},
		{func(p *pair) { p.put(one, modelSplit(2, 1, a)...); p.put(0, modelRoot(2), modelRoot(3)) }, 3, nil},
		{func(p *pair) { p.put(one, modelSplit(2, 1, a)...); p.put(0, modelRoot(2), nil) }, 2, [][]byte{a}},
		{func(p *pair) { p.put(one, modelSplit(0, 1, a)...); p.put(0, nil, nil) }, 0, [][]byte{a}},
		{func(p *pair) { p.put(one, nil); p.put(one+1, modelSplit(0, 1, b)...) }, 0, nil},
		{func(p *pair) { p.put(one, slices.Concat(modelSplit(0, 1, a), modelSplit(0, 2, b))...) }, 0, [][]byte{a, b}},
		{func(p *pair) { p.put(one, slices.Concat(modelSplit(0, 2, a), modelSplit(0, 1, b))...) }, 0, [][]byte{a}},
		{func(p *pair) { p.put(9, modelSplit(0, 3, a)...) }, 0, nil},
		{func(p *pair) { p.put(one, modelSplit(0, 1, row(13, 392))...); p.put(two, modelSplit(0, 2, b)...) }, 0, [][]byte{row(13, 392)}},
	} {
		p := newDisks(t, 18)
		x.lay(p)
		p.open()
		if got := p.l.Records(); !sameRecords(got, x.want) || p.l.Gen() != x.gen {
			t.Errorf("P9.1: %v: %v %v, not %v %v", i, p.l.Gen(), got, x.gen, x.want)
		}
		p.append([]byte{1})
		p.compact(a, b)
		p.open()
		p.append(b)
	}
}

// There are at most 200 records, whatever lies in the segment.
func TestNoMoreThanTwoHundred(t *testing.T) {
	for _, n := range []int{199, 200, 201, 255} {
		p := newDisks(t, 512)
		for i := range n {
			p.write(2+i, modelSplit(0, uint32(i+1), []byte{byte(i)})[0])
		}
		p.flush()
		p.open()
		want := api.OK
		if n >= 200 {
			want = api.Full
		}
		if got := len(p.l.Records()); got != min(n, 200) || p.l.Used() != n {
			t.Errorf("P9.1: of %v there are %v, in %v sectors", n, got, p.l.Used())
		}
		if e := p.append([]byte{1}); e != want {
			t.Errorf("P9.2: to %v: %v", n, e)
		}
	}
}

func TestAppendOfAllLengths(t *testing.T) {
	p := newPair(t, 18)
	for n := 1; n <= 392; n++ {
		record := row(byte(n), n)
		if e := p.append(record); e != api.OK || p.l.Used() != (n+48)/49 {
			t.Fatalf("P9.2: %v bytes: %v, %v sectors", n, e, p.l.Used())
		}
		p.up()
		p.open()
		if l := p.l.Records(); !sameRecords(l, [][]byte{record}) {
			t.Fatalf("P9.4: %v bytes: %v", n, l)
		}
		p.compact()
	}
}

func TestAppendOfWhatIsNoRecord(t *testing.T) {
	p := newPair(t, 18)
	for range 3 {
		for _, bad := range [][]byte{nil, {}, row(1, 393), row(1, 394), row(1, 441), row(1, 1<<20)} {
			if e := p.append(bad); e != api.Arg {
				t.Errorf("P9.2: %v bytes: %v", len(bad), e)
			}
		}
		if e := p.append(row(2, 98)); e != api.OK {
			t.Errorf("P9.2: behind Arg: %v", e)
		}
		p.open()
	}
}

// Records come one behind the other, in order, opened anew or not.
func TestAppendOneBehindTheOther(t *testing.T) {
	for _, anew := range []bool{false, true} {
		p := newPair(t, 120)
		d := dice(3)
		var want [][]byte
		for {
			record := d.bytes(1 + d.next(200))
			if len(record) > 49*p.l.Free() {
				break
			}
			want = append(want, record)
			if e := p.append(record); e != api.OK {
				t.Fatalf("P9.2: %v", e)
			}
			if anew {
				p.open()
			}
			if !sameRecords(p.l.Records(), want) {
				t.Fatalf("P9.1: not all, in order: %v records, not %v", len(p.l.Records()), len(want))
			}
		}
		if len(want) < 10 {
			t.Errorf("so few: %v", len(want))
		}
	}
}

// A record fits just as long as there are sectors for its cells.
func TestWhatFits(t *testing.T) {
	for was := range 11 {
		for cells := 1; cells <= 8; cells++ {
			p := newPair(t, 23)
			for range was {
				p.append([]byte{9})
			}
			want := api.OK
			if was+cells > 10 {
				want = api.Full
			}
			for _, n := range []int{49*cells - 48, 49 * cells} {
				q := p
				if want == api.OK {
					q = newPair(t, 23)
					q.compact(slices.Repeat([][]byte{{9}}, was)...)
				}
				if e := q.append(row(1, n)); e != want {
					t.Errorf("P9.2: %v of 10 are used, %v bytes: %v", was, n, e)
				}
				q.open()
			}
		}
	}
}

// The two hundredth is one, the next is Full though there is room; compacted to one less, one more is one.
func TestTwoHundredRecords(t *testing.T) {
	p := newPair(t, 512)
	for i := range 200 {
		if e := p.append([]byte{byte(i)}); e != api.OK {
			t.Fatalf("P9.2: %v: %v", i, e)
		}
	}
	for range 2 {
		if e := p.append([]byte{1}); e != api.Full || p.l.Free() != 55 {
			t.Errorf("P9.2: beyond 200: %v, %v are free", e, p.l.Free())
		}
		if e := p.append(nil); e != api.Arg {
			t.Errorf("P9.2: beyond 200, none: %v", e)
		}
		p.open()
	}
	all := p.l.Records()
	if e := p.compact(all...); e != api.OK {
		t.Errorf("P9.3: %v", e)
	}
	if e := p.append([]byte{1}); e != api.Full {
		t.Errorf("P9.2: beyond 200: %v", e)
	}
	if e := p.compact(append(all, []byte{1})...); e != api.Full {
		t.Errorf("P9.3: of 201: %v", e)
	}
	if e := p.compact(all[1:]...); e != api.OK {
		t.Errorf("P9.3: %v", e)
	}
	if e := p.append(row(1, 392)); e != api.OK {
		t.Errorf("P9.2: %v", e)
	}
	if e := p.append([]byte{1}); e != api.Full {
		t.Errorf("P9.2: beyond 200: %v", e)
	}
}

// Numbers go up to 2^32 - 1: behind that nothing fits.
func TestTheGreatestNumbers(t *testing.T) {
	for _, top := range []uint32{math.MaxUint32 - 3, math.MaxUint32 - 2, math.MaxUint32 - 1, math.MaxUint32} {
		for _, at := range []int{2, 9, 10, 17} { // both ends of both halves
			p := newDisks(t, 18)
			p.put(at, modelSplit(7, top, []byte{1})[0])
			p.open()
			left := int(math.MaxUint32 - top)
			for i := range 4 {
				if e := p.append([]byte{2}); at < 10 && e == api.OK != (i < left) {
					t.Errorf("P9.2: number %v in sector %v, Append %v: %v", top, at, i, e)
				}
			}
			for _, n := range []int{4, 3, 2, 1, 0} {
				q := newDisks(t, 18)
				q.put(at, modelSplit(7, top, []byte{1})[0])
				q.open()
				if e := q.compact(slices.Repeat([][]byte{{3}}, n)...); at >= 10 && e == api.OK != (n <= left) {
					t.Errorf("P9.3: number %v in sector %v, Compact of %v: %v", top, at, n, e)
				}
				q.append([]byte{4})
				q.open()
			}
		}
	}
}

// Arg comes ahead of Full, Full ahead of Down; Arg and Full change nothing, begin no write, and don't lose the ledger.
func TestOrderOfCodes(t *testing.T) {
	p := newPair(t, 18)
	p.append(row(1, 98))
	fits, large := row(2, 294), row(2, 295)
	p.plan(1)
	for range 2 {
		for i, e := range []api.Code{p.append(nil), p.append(row(3, 393)), p.append(large), p.compact(nil), p.compact(fits, row(3, 99)), p.compact(fits, row(3, 99), nil)} {
			if want := []api.Code{api.Arg, api.Arg, api.Full, api.Arg, api.Full, api.Arg}[i]; e != want {
				t.Errorf("P9.2: %v: %v, not %v", i, e, want)
			}
		}
		p.flush() // the power goes now, and those are told as with power
	}
	p.up()
	if e := p.append(fits); e != api.OK {
		t.Errorf("P9.2: a ledger that told Arg and Full without power: %v", e)
	}
	p.open()
}

// One that finds the power gone loses the ledger, though it has begun nothing.
func TestPowerThatIsGoneAlready(t *testing.T) {
	for i, do := range []func(p *pair) api.Code{
		func(p *pair) api.Code { return p.append([]byte{2}) },
		func(p *pair) api.Code { return p.compact([]byte{2}) },
		func(p *pair) api.Code { return p.compact() },
	} {
		p := newPair(t, 18)
		p.append([]byte{1})
		p.cut()
		if e := do(p); e != api.Down {
			t.Errorf("P9.2: %v: %v", i, e)
		}
		isLost(p)
		p.up()
		isLost(p)
		p.open()
		if l := p.l.Records(); !sameRecords(l, [][]byte{{1}}) {
			t.Errorf("P9.4: %v: %v", i, l)
		}
	}
}

// isLost sees to it that a ledger tells Down from now on, whatever it is handed.
func isLost(p *pair) {
	p.t.Helper()
	for range 2 {
		if len(p.l.Records()) != 0 || p.l.Free() != 0 || p.l.Used() != 0 || p.l.Gen() != 0 {
			p.t.Fatalf("P9.2: a lost ledger tells %v %v %v %v", p.l.Records(), p.l.Free(), p.l.Used(), p.l.Gen())
		}
		for i, e := range []api.Code{p.append([]byte{1}), p.append(nil), p.append(row(1, 392)), p.compact(), p.compact([]byte{1}), p.compact(nil), p.compact(slices.Repeat([][]byte{{1}}, 201)...)} {
			if e != api.Down {
				p.t.Fatalf("P9.2: a lost ledger, %v: %v", i, e)
			}
		}
	}
}

// What is answered has memory of its own, each time, and each of the records.
func TestRecordsShareNothing(t *testing.T) {
	p := newPair(t, 20)
	p.append(row(1, 60))
	p.append(row(2, 20))
	for _, do := range []func(){
		func() {},
		func() { p.open() },
		func() { p.compact(row(1, 60), row(2, 20)) },
		func() { p.open() },
	} {
		do()
		one, two := p.l.Records(), p.l.Records()
		for i, b := range one {
			_ = append(b, 1, 2, 3)
			clear(b[:cap(b)])
			if i == 0 && !bytes.Equal(one[1], row(2, 20)) {
				t.Errorf("rule 3: a record shares memory with the next one")
			}
		}
		clear(one)
		_ = append(one[:1], []byte{9})
		if !sameRecords(two, [][]byte{row(1, 60), row(2, 20)}) {
			t.Errorf("rule 3: %v", two)
		}
		p.check()
	}
}

// A list that the ledger answered may be handed in, a part of it, too.
func TestCompactOfItsOwnRecords(t *testing.T) {
	p := newPair(t, 30)
	for i := range 10 {
		p.append(row(byte(i), 1+7*i))
	}
	l := p.l.Records()
	p.compact(l[3:6]...)
	p.append(l[1])
	p.open()
	if got := p.l.Records(); !sameRecords(got, append(l[3:6:6], l[1])) {
		t.Errorf("P9.3: %v", got)
	}
}
