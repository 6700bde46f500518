package seg_test

import (
	"bytes"
	"encoding/binary"
	"hash/crc32"
	"math"
	"slices"
	"testing"

	"heijunka/api"
	"heijunka/disk"
	"heijunka/seg"
)

// modelSector is a cell as a sector; what it says need not be what a cell may.
func modelSector(x api.Cell) []byte {
	b := binary.LittleEndian.AppendUint32(nil, x.Gen)
	b = binary.LittleEndian.AppendUint32(b, x.Seq)
	b = append(b, byte(x.Part), byte(x.Parts), byte(len(x.Data)))
	b = append(b, x.Data...)
	b = append(b, make([]byte, 60-len(b))...)
	return append(binary.LittleEndian.AppendUint32(nil, crc32.ChecksumIEEE(b)), b...)
}

// modelSplit are the sectors of a record, whose bytes are taken one by one.
func modelSplit(gen, seq uint32, record []byte) [][]byte {
	var data [][]byte
	for i, c := range record {
		if i%49 == 0 {
			data = append(data, nil)
		}
		data[i/49] = append(data[i/49], c)
	}
	var l [][]byte
	for part, b := range data {
		l = append(l, modelSector(api.Cell{Gen: gen, Seq: seq, Part: part, Parts: len(data), Data: b}))
	}
	return l
}

// modelCell is the number of the cell that a sector is, and what it says; whether it is one.
func modelCell(b []byte) (seq uint32, data []byte, ok bool) {
	if len(b) != 64 || b[14] > 49 {
		return 0, nil, false
	}
	x := api.Cell{
		Gen:   binary.LittleEndian.Uint32(b[4:]),
		Seq:   binary.LittleEndian.Uint32(b[8:]),
		Part:  int(b[12]),
		Parts: int(b[13]),
		Data:  b[15 : 15+b[14]],
	}
	n, last := len(x.Data), x.Part == x.Parts-1
	ok = 1 <= x.Parts && x.Parts <= 8 && x.Part < x.Parts && 1 <= n && (n == 49 || last)
	return x.Seq, x.Data, ok && bytes.Equal(b, modelSector(x))
}

// model is a segment, as the document's words tell it, on a disk of its own.
type model struct {
	d        *disk.Disk
	first, n int
	gen      uint32
	end      int // how many sectors its records take
	top      uint64
}

// modelRead are the sectors of a segment, nothing where one isn't read.
func modelRead(d *disk.Disk, first, n int) [][]byte {
	l := make([][]byte, n)
	for i := range l {
		l[i], _ = d.Read(first + i)
	}
	return l
}

// modelRecords goes by what is split, not by what is joined: a record is there, if its sectors are.
func modelRecords(l [][]byte, gen uint32) (records [][]byte, end int) {
	last := uint32(0)
	for parts := 1; parts <= 8 && end+parts <= len(l); parts++ {
		var record []byte
		for _, b := range l[end : end+parts] {
			_, data, _ := modelCell(b)
			record = append(record, data...)
		}
		seq, _, ok := modelCell(l[end])
		if !ok || seq <= last || len(record) > 392 || !slices.EqualFunc(modelSplit(gen, seq, record), l[end:end+parts], bytes.Equal) {
			continue
		}
		records = append(records, record)
		end, last, parts = end+parts, seq, 0
	}
	return records, end
}

func modelTop(l [][]byte) uint64 {
	top := uint64(0)
	for _, b := range l {
		if seq, _, ok := modelCell(b); ok {
			top = max(top, uint64(seq))
		}
	}
	return top
}

func (m *model) scan() ([][]byte, api.Code) {
	if m.d.Down() {
		return nil, api.Down
	}
	l := modelRead(m.d, m.first, m.n)
	records, end := modelRecords(l, m.gen)
	m.end, m.top = end, modelTop(l)
	return records, api.OK
}

func (m *model) begin() api.Code {
	if m.d.Down() {
		return api.Down
	}
	m.end, m.top = 0, modelTop(modelRead(m.d, m.first, m.n))
	return api.OK
}

func (m *model) add(records [][]byte) api.Code {
	var l [][]byte
	for i, record := range records {
		if len(record) < 1 || len(record) > 392 {
			return api.Arg
		}
		l = append(l, modelSplit(m.gen, uint32(m.top)+uint32(i)+1, record)...)
	}
	if m.end+len(l) > m.n || m.top+uint64(len(records)) > math.MaxUint32 {
		return api.Full
	}
	if m.d.Down() {
		return api.Down
	}
	for i, b := range l {
		m.d.Write(m.first+m.end+i, b)
	}
	if len(records) > 0 {
		m.d.Flush()
	}
	if m.d.Down() {
		m.end, m.top = 0, math.MaxUint32
		return api.Down
	}
	m.end, m.top = m.end+len(l), m.top+uint64(len(records))
	return api.OK
}

// lentRecords are records with room around the list, and around each of them, that isn't the call's to read or write, and what all of it was.
type lentRecords struct {
	l, all, was [][]byte
	texts       []string
}

func lendRecords(records [][]byte) lentRecords {
	all := [][]byte{{7}}
	for _, record := range records {
		room := slices.Concat([]byte{71, 72, 73}, record, []byte{81, 82, 83})
		all = append(all, room[3:3+len(record)])
	}
	all = append(all, []byte{7}, []byte{8})
	r := lentRecords{l: all[1 : 1+len(records)], all: all, was: slices.Clone(all)}
	for _, b := range all {
		r.texts = append(r.texts, string(b[:cap(b)]))
	}
	return r
}

// takeBack sees to it that nothing was changed, and writes all over, so that a segment that keeps it can be told.
func (r lentRecords) takeBack(t *testing.T) {
	t.Helper()
	for i, b := range r.all {
		if len(b) != len(r.was[i]) || string(r.was[i][:cap(r.was[i])]) != r.texts[i] || string(b[:cap(b)]) != r.texts[i] {
			t.Fatalf("rule 3: what was handed in was changed: %.99v is now %.99v", r.texts[i], b)
		}
	}
	for _, b := range r.all {
		b = b[:cap(b)]
		for i := range b {
			b[i] ^= 0xa5
		}
	}
	clear(r.all)
}

// pair is a segment, and the model's beside it, each on a disk of its own: each step is done to both.
type pair struct {
	t *testing.T
	d *disk.Disk
	s *seg.Seg
	m *model
}

func newPair(t *testing.T, sectors, first, n int, gen uint32) pair {
	t.Helper()
	d, _ := disk.New(sectors)
	twin, _ := disk.New(sectors)
	p := pair{t: t, d: d}.again(first, n, gen, twin)
	p.check()
	return p
}

// again is another segment on the same disk.
func (p pair) again(first, n int, gen uint32, twin *disk.Disk) pair {
	p.t.Helper()
	s, e := seg.New(p.d, first, n, gen)
	if e != api.OK || s == nil {
		p.t.Fatalf("P7.1: New(%v sectors, %v, %v, %v): %v %v", p.d.Sectors(), first, n, gen, s, e)
	}
	p.s, p.m = s, &model{d: twin, first: first, n: n, gen: gen, top: math.MaxUint32}
	return p
}

// put has a sector written, and flushed: one of the segment's, the first one 0, or one beside them.
func (p pair) put(i int, b []byte) {
	p.t.Helper()
	for _, d := range []*disk.Disk{p.d, p.m.d} {
		if e := d.Write(p.m.first+i, b); e != api.OK {
			p.t.Fatalf("Write: %v", e)
		}
		if e := d.Flush(); e != api.OK {
			p.t.Fatalf("Flush: %v", e)
		}
	}
}

// tear has a sector torn.
func (p pair) tear(i int) {
	for _, d := range []*disk.Disk{p.d, p.m.d} {
		d.Write(p.m.first+i, make([]byte, 64))
		d.Up([]byte{2})
	}
}

func (p pair) plan(stop int) {
	p.d.Plan(stop)
	p.m.d.Plan(stop)
}

func (p pair) up(choices ...byte) {
	p.d.Up(choices)
	p.m.d.Up(choices)
}

func (p pair) add(records ...[]byte) api.Code {
	p.t.Helper()
	r := lendRecords(records)
	got, want := p.s.Add(r.l), p.m.add(records)
	r.takeBack(p.t)
	if got != want {
		p.t.Fatalf("P7.2: Add of %v records: %v, not %v", len(records), got, want)
	}
	p.check()
	return got
}

func (p pair) begin() api.Code {
	p.t.Helper()
	got, want := p.s.Begin(), p.m.begin()
	if got != want {
		p.t.Fatalf("P7.2: Begin(): %v, not %v", got, want)
	}
	p.check()
	return got
}

// scan answers copies: what it is told it writes over, so that a segment, or a disk, that keeps it can be told.
func (p pair) scan() ([][]byte, api.Code) {
	p.t.Helper()
	got, e := p.s.Scan()
	want, f := p.m.scan()
	if e != f || !sameRecords(got, want) {
		p.t.Fatalf("P7.1: Scan(): %.299v %v, not %.299v %v", got, e, want, f)
	}
	for i, b := range got {
		clear(b[:cap(b)])
		if !sameRecords(got[i+1:], want[i+1:]) {
			p.t.Fatalf("rule 3: record %v shares memory with those behind it", i)
		}
	}
	p.check()
	return want, e
}

// check sees to it that all that can be told of the segment, and of its disk, is the model's.
func (p pair) check() {
	p.t.Helper()
	if got := p.s.Gen(); got != p.m.gen {
		p.t.Fatalf("P7.1: Gen(): %v, not %v", got, p.m.gen)
	}
	if got, want := p.s.Free(), p.m.n-p.m.end; got != want {
		p.t.Fatalf("P7.2: Free(): %v, not %v", got, want)
	}
	if got, want := p.d.Down(), p.m.d.Down(); got != want {
		p.t.Fatalf("P7.2: the power is gone: %v, not %v", got, want)
	}
	p.same("is there as", p.d.Image(), p.m.d.Image())
	n := p.d.Sectors()
	p.same("is read as", modelRead(p.d, 0, n), modelRead(p.m.d, 0, n))
}

func (p pair) same(what string, got, want [][]byte) {
	p.t.Helper()
	for i, b := range got {
		if !bytes.Equal(b, want[i]) {
			p.t.Fatalf("P7.2: sector %v %v %v, not %v", i, what, b, want[i])
		}
	}
}

func sameRecords(l, m [][]byte) bool { return slices.EqualFunc(l, m, bytes.Equal) }

// row is a record of n bytes, all of them c.
func row(c byte, n int) []byte { return bytes.Repeat([]byte{c}, n) }

// dice gives the same numbers in each run.
type dice uint64

func (d *dice) next(n int) int {
	*d = *d*6364136223846793005 + 1442695040888963407
	return int(uint64(*d) >> 33 % uint64(n))
}

func (d *dice) bytes(n int) []byte {
	b := make([]byte, n)
	for i := range b {
		b[i] = byte(d.next(256))
	}
	return b
}
