package cell_test

import (
	"bytes"
	"math"
	"slices"
	"sync"
	"testing"

	"heijunka/api"
	"heijunka/cell"
)

func wantSplit(t *testing.T, gen, seq uint32, record []byte) []api.Cell {
	t.Helper()
	l := lend(record)
	got, e := cell.Split(gen, seq, l.b)
	l.takeBack(t)
	if e != api.OK || !sameCells(got, modelSplit(gen, seq, record)) {
		t.Fatalf("P6.2: Split(%v, %v, %v bytes): %v %v", gen, seq, len(record), got, e)
	}
	return got
}

// wantJoin holds what cells are joined to against the model.
func wantJoin(t *testing.T, l []api.Cell) {
	t.Helper()
	want, ok := modelJoin(l)
	c := lendCells(l)
	got, e := cell.Join(c.l)
	c.takeBack(t)
	if ok && (e != api.OK || !bytes.Equal(got, want)) {
		t.Fatalf("P6.2: Join of %v: %v %v, not %v", l, got, e, want)
	}
	if !ok && (e != api.Malformed || len(got) != 0) {
		t.Fatalf("P6.2: Join of %v: %v %v", l, got, e)
	}
}

// wantApart sees to it that cells aren't joined, whatever the model says.
func wantApart(t *testing.T, l []api.Cell, what string) {
	t.Helper()
	if got, e := cell.Join(l); e != api.Malformed || len(got) != 0 {
		t.Fatalf("P6.3: Join of cells of which %v: %v %v", what, got, e)
	}
	wantJoin(t, l)
}

func TestNeed(t *testing.T) {
	for n := -1000; n <= 1000; n++ {
		want := 0
		if n >= 1 && n <= 392 {
			want = len(modelSplit(0, 0, make([]byte, n)))
		}
		if got := cell.Need(n); got != want {
			t.Errorf("P6.2: Need(%v): %v, not %v", n, got, want)
		}
	}
	for n, want := range map[int]int{0: 0, 1: 1, 49: 1, 50: 2, 98: 2, 99: 3, 343: 7, 344: 8, 392: 8, 393: 0, math.MaxInt: 0, math.MaxInt - 47: 0, math.MaxInt32: 0, 1 << 32: 0, 1<<32 + 1: 0, math.MinInt: 0, math.MinInt + 48: 0} {
		if got := cell.Need(n); got != want {
			t.Errorf("P6.2: Need(%v): %v, not %v", n, got, want)
		}
	}
}

func TestSplit(t *testing.T) {
	d := dice(11)
	for n := 1; n <= 392; n++ {
		wantSplit(t, d.word(), d.word(), d.bytes(n))
		wantSplit(t, 0, math.MaxUint32, make([]byte, n))
		wantSplit(t, math.MaxUint32, 0, bytes.Repeat([]byte{255}, n))
	}
}

// The document's example.
func TestSplitOfFiftyBytes(t *testing.T) {
	l := wantSplit(t, 1, 1, bytes.Repeat([]byte{3}, 50))
	if len(l) != 2 || len(l[0].Data) != 49 || len(l[1].Data) != 1 {
		t.Errorf("P6.2: a record of 50 bytes: %v", l)
	}
}

func TestSplitOfWhatIsNoRecord(t *testing.T) {
	for _, n := range []int{0, 393, 394, 441, 442, 1000, 1 << 20} {
		l := lend(make([]byte, n))
		got, e := cell.Split(1, 2, l.b)
		l.takeBack(t)
		if e != api.Arg || len(got) != 0 {
			t.Errorf("P6.2: Split of %v bytes: %v %v", n, got, e)
		}
	}
	if got, e := cell.Split(1, 2, nil); e != api.Arg || len(got) != 0 {
		t.Errorf("P6.2: Split of nothing: %v %v", got, e)
	}
}

// Each part is cut so that it has no room behind it: what is put behind one is not in the next.
func TestPartsHaveNoRoomBehindThem(t *testing.T) {
	d := dice(12)
	for _, n := range []int{1, 49, 50, 98, 100, 391, 392} {
		record := d.bytes(n)
		l := wantSplit(t, 5, 6, record)
		for i := range l {
			_ = append(l[i].Data, 1, 2, 3)
		}
		if !sameCells(l, modelSplit(5, 6, record)) {
			t.Errorf("rule 3: put behind parts of %v bytes: %v", n, l)
		}
		for i := range l {
			clear(l[i].Data[:cap(l[i].Data)])
			rest := modelSplit(5, 6, record)[i+1:]
			if !sameCells(l[i+1:], rest) {
				t.Errorf("rule 3: part %v of %v bytes written over: %v", i, n, l)
			}
		}
	}
}

func TestJoin(t *testing.T) {
	d := dice(13)
	for n := 1; n <= 392; n++ {
		record := d.bytes(n)
		l := modelSplit(d.word(), d.word(), record)
		c := lendCells(l)
		got, e := cell.Join(c.l)
		c.takeBack(t)
		if e != api.OK || !bytes.Equal(got, record) {
			t.Fatalf("P6.2: Join of the cells of %v: %v %v", record, got, e)
		}
	}
}

func TestJoinOfNothing(t *testing.T) {
	wantApart(t, nil, "there is none")
	wantApart(t, []api.Cell{}, "there is none")
	wantApart(t, []api.Cell{{}}, "one is nothing")
	wantApart(t, make([]api.Cell, 1<<12), "all are nothing")
}

// Cells of which one is missing, twice there, or in another's place aren't joined.
func TestJoinOfOtherCells(t *testing.T) {
	d := dice(14)
	for _, n := range []int{1, 49, 50, 98, 99, 147, 344, 391, 392} {
		l := modelSplit(d.word(), d.word(), d.bytes(n))
		for i := range l {
			wantApart(t, slices.Delete(slices.Clone(l), i, i+1), "one is missing")
			for at := range len(l) + 1 {
				wantApart(t, slices.Insert(slices.Clone(l), at, l[i]), "one is twice there")
			}
			for j := range l {
				m := slices.Clone(l)
				m[i], m[j] = m[j], m[i]
				if i != j {
					wantApart(t, m, "two stand in each other's place")
				}
				m = slices.Clone(l)
				m[i] = m[j]
				if i != j {
					wantApart(t, m, "one is another")
				}
			}
		}
	}
}

// A cell of another record, which differs in one thing alone, isn't joined to these.
func TestJoinOfAnotherRecordsCells(t *testing.T) {
	d := dice(15)
	for _, n := range []int{50, 98, 99, 200, 392} {
		l := modelSplit(d.word(), d.word(), d.bytes(n))
		for i := range l {
			for _, change := range []func(*api.Cell){
				func(x *api.Cell) { x.Gen++ },
				func(x *api.Cell) { x.Gen ^= 1 << 31 },
				func(x *api.Cell) { x.Seq++ },
				func(x *api.Cell) { x.Seq ^= 1 << 31 },
				func(x *api.Cell) { x.Part++ },
				func(x *api.Cell) { x.Part-- },
				func(x *api.Cell) { x.Part += 256 },
				func(x *api.Cell) { x.Parts++ },
				func(x *api.Cell) { x.Parts-- },
				func(x *api.Cell) { x.Parts += 256 },
				func(x *api.Cell) { x.Data = nil },
				func(x *api.Cell) { x.Data = bytes.Repeat([]byte{1}, 50) },
			} {
				m := slices.Clone(l)
				change(&m[i])
				wantApart(t, m, "one is another record's")
			}
		}
	}
}

// Each of the cells may be; that their bytes together are some record isn't enough.
func TestJoinOfCellsThatMayNotBe(t *testing.T) {
	b := bytes.Repeat([]byte{1}, 49)
	wantApart(t, []api.Cell{{Part: 0, Parts: 2, Data: b[:48]}, {Part: 1, Parts: 2, Data: b[:2]}}, "the first one is short")
	wantApart(t, []api.Cell{{Part: 0, Parts: 2, Data: b}, {Part: 1, Parts: 2}}, "the last one says nothing")
	wantApart(t, []api.Cell{{Part: 0, Parts: 1}}, "the only one says nothing")
	wantApart(t, []api.Cell{{Part: 0, Parts: 1, Data: make([]byte, 50)}}, "the only one is long")
	nine := []api.Cell{}
	for i := range 9 {
		nine = append(nine, api.Cell{Part: i, Parts: 9, Data: b})
	}
	wantApart(t, nine, "there are nine")
	nine[8].Data = b[:1]
	wantApart(t, nine, "there are nine")
}

// Lists that are put together at random, mostly of cells that almost fit, against the model.
func TestJoinOfAnyCells(t *testing.T) {
	d := dice(16)
	joined := 0
	for range 40000 {
		parts := 1 + d.next(3)
		l := make([]api.Cell, max(0, parts-d.next(8)/7+d.next(8)/7))
		for i := range l {
			l[i] = api.Cell{Gen: 1 + uint32(d.next(30)/29), Seq: 1 + uint32(d.next(30)/29), Part: i, Parts: parts, Data: d.bytes(49)}
			if d.next(20) == 0 {
				l[i].Part = d.next(4)
			}
			if i == len(l)-1 || d.next(20) == 0 {
				l[i].Data = l[i].Data[:d.next(50)]
			}
		}
		wantJoin(t, l)
		if _, ok := modelJoin(l); ok {
			joined++
		}
	}
	if joined < 5000 || joined > 35000 {
		t.Errorf("%v of 40000 lists are records' cells", joined)
	}
}

func TestWhatIsSplitIsJoined(t *testing.T) {
	d := dice(17)
	for n := 1; n <= 392; n++ {
		record := d.bytes(n)
		l, e := cell.Split(d.word(), d.word(), record)
		if e != api.OK || len(l) != cell.Need(n) {
			t.Fatalf("P6.2: Split of %v bytes: %v %v", n, l, e)
		}
		for i, x := range l {
			sector, e := cell.Encode(x)
			if e != api.OK {
				t.Fatalf("P6.3: Encode of %v: %v", x, e)
			}
			if l[i], e = cell.Decode(sector); e != api.OK {
				t.Fatalf("P6.3: Decode of %v: %v", sector, e)
			}
		}
		if got, e := cell.Join(l); e != api.OK || !bytes.Equal(got, record) {
			t.Fatalf("P6.3: of %v bytes: %v %v", n, got, e)
		}
	}
}

func TestRecordsShareNothing(t *testing.T) {
	d := dice(18)
	record := d.bytes(123)
	l, _ := cell.Split(1, 2, record)
	one, _ := cell.Join(l)
	two, _ := cell.Join(l)
	clear(one[:cap(one)])
	if !bytes.Equal(two, record) || !sameCells(l, modelSplit(1, 2, record)) {
		t.Errorf("rule 3: %v", two)
	}
	single, _ := cell.Split(1, 2, record[:20])
	three, _ := cell.Join(single)
	clear(three[:cap(three)])
	if !sameCells(single, modelSplit(1, 2, record[:20])) {
		t.Errorf("rule 3: %v", single)
	}
}

// An answer hangs on its arguments alone: not on calls that run beside it.
func TestCallsBesideEachOther(t *testing.T) {
	var all sync.WaitGroup
	for k := range 4 {
		all.Go(func() {
			d := dice(k)
			for range 500 {
				record := d.bytes(1 + d.next(392))
				l, _ := cell.Split(d.word(), d.word(), record)
				if got, e := cell.Join(l); e != api.OK || !bytes.Equal(got, record) {
					t.Errorf("rule 5: Join of %v: %v %v", l, got, e)
					return
				}
			}
		})
	}
	all.Wait()
}
