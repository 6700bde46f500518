package ledger_test

import (
	"bytes"
	"encoding/binary"
	"hash/crc32"
	"math"
	"slices"
	"testing"

	"heijunka/api"
	"heijunka/disk"
	"heijunka/ledger"
)

// modelSector is a cell as a sector.
func modelSector(x api.Cell) []byte {
	b := binary.LittleEndian.AppendUint32(nil, x.Gen)
	b = binary.LittleEndian.AppendUint32(b, x.Seq)
	b = append(b, byte(x.Part), byte(x.Parts), byte(len(x.Data)))
	b = append(b, x.Data...)
	b = append(b, make([]byte, 60-len(b))...)
	return append(binary.LittleEndian.AppendUint32(nil, crc32.ChecksumIEEE(b)), b...)
}

// modelSplit are the sectors of a record, whose bytes are taken one by one.
func modelSplit(gen, seq uint32, record []byte) [][]byte {
	var data [][]byte
	for i, c := range record {
		if i%49 == 0 {
			data = append(data, nil)
		}
		data[i/49] = append(data[i/49], c)
	}
	var l [][]byte
	for part, b := range data {
		l = append(l, modelSector(api.Cell{Gen: gen, Seq: seq, Part: part, Parts: len(data), Data: b}))
	}
	return l
}

// modelRoot is a generation's root as a sector.
func modelRoot(gen uint32) []byte {
	return modelSector(api.Cell{Gen: gen, Parts: 1, Data: []byte{'r', 'o', 'o', 't'}})
}

// modelCell is the number of the cell that a sector is, and what it says; whether it is one.
func modelCell(b []byte) (seq uint32, data []byte, ok bool) {
	if len(b) != 64 || b[14] > 49 {
		return 0, nil, false
	}
	x := api.Cell{
		Gen:   binary.LittleEndian.Uint32(b[4:]),
		Seq:   binary.LittleEndian.Uint32(b[8:]),
		Part:  int(b[12]),
		Parts: int(b[13]),
		Data:  b[15 : 15+b[14]],
	}
	n, last := len(x.Data), x.Part == x.Parts-1
	ok = 1 <= x.Parts && x.Parts <= 8 && x.Part < x.Parts && 1 <= n && (n == 49 || last)
	return x.Seq, x.Data, ok && bytes.Equal(b, modelSector(x))
}

// modelRead are so many sectors, nothing where one isn't read.
func modelRead(d *disk.Disk, first, n int) [][]byte {
	l := make([][]byte, n)
	for i := range l {
		l[i], _ = d.Read(first + i)
	}
	return l
}

// modelGen is the greatest generation whose root lies in its own sector.
func modelGen(d *disk.Disk) uint32 {
	gen := uint32(0)
	for i, b := range modelRead(d, 0, 2) {
		if b == nil {
			continue
		}
		g := binary.LittleEndian.Uint32(b[4:])
		if int(g&1) == i && bytes.Equal(b, modelRoot(g)) {
			gen = max(gen, g)
		}
	}
	return gen
}

// modelRecords goes by what is split, not by what is joined: a record is there, if its sectors are.
func modelRecords(l [][]byte, gen uint32) (records [][]byte, end int) {
	last := uint32(0)
	for parts := 1; parts <= 8 && end+parts <= len(l); parts++ {
		var record []byte
		for _, b := range l[end : end+parts] {
			_, data, _ := modelCell(b)
			record = append(record, data...)
		}
		seq, _, ok := modelCell(l[end])
		if !ok || seq <= last || len(record) > 392 || !slices.EqualFunc(modelSplit(gen, seq, record), l[end:end+parts], bytes.Equal) {
			continue
		}
		records = append(records, record)
		end, last, parts = end+parts, seq, 0
	}
	return records, end
}

func modelTop(l [][]byte) uint64 {
	top := uint64(0)
	for _, b := range l {
		if seq, _, ok := modelCell(b); ok {
			top = max(top, uint64(seq))
		}
	}
	return top
}

// model is a ledger, as the document's words tell it, on a disk of its own.
type model struct {
	d       *disk.Disk
	n       int // sectors of a half
	gen     uint32
	records [][]byte
	used    int
	top     uint64
	lost    bool
}

func modelOpen(d *disk.Disk) (*model, api.Code) {
	if d.Sectors() < 18 {
		return nil, api.Arg
	}
	if d.Down() {
		return nil, api.Down
	}
	m := &model{d: d, n: (d.Sectors() - 2) / 2, gen: modelGen(d)}
	l := modelRead(d, m.first(m.gen), m.n)
	m.records, m.used = modelRecords(l, m.gen)
	m.records = m.records[:min(200, len(m.records))]
	m.top = modelTop(l)
	return m, api.OK
}

func (m *model) first(gen uint32) int {
	if gen&1 == 0 {
		return 2
	}
	return 2 + m.n
}

// need is how many sectors records take; none, if one isn't a record.
func (m *model) need(records [][]byte) (int, api.Code) {
	n := 0
	for _, record := range records {
		if len(record) < 1 || len(record) > 392 {
			return 0, api.Arg
		}
		n += (len(record) + 48) / 49
	}
	return n, api.OK
}

// end tells Down, and that the ledger is lost, if the power is gone.
func (m *model) end() api.Code {
	if m.d.Down() {
		*m = model{d: m.d, lost: true}
		return api.Down
	}
	return api.OK
}

func (m *model) append(record []byte) api.Code {
	if m.lost {
		return api.Down
	}
	n, e := m.need([][]byte{record})
	if e != api.OK {
		return e
	}
	if len(m.records) >= 200 || m.used+n > m.n || m.top == math.MaxUint32 {
		return api.Full
	}
	for i, b := range modelSplit(m.gen, uint32(m.top)+1, record) {
		m.d.Write(m.first(m.gen)+m.used+i, b)
	}
	m.d.Flush()
	m.records = append(m.records, bytes.Clone(record))
	m.used, m.top = m.used+n, m.top+1
	return m.end()
}

func (m *model) compact(records [][]byte) api.Code {
	if m.lost {
		return api.Down
	}
	n, e := m.need(records)
	if e != api.OK {
		return e
	}
	if len(records) > 200 || n > m.n || m.gen == math.MaxUint32 {
		return api.Full
	}
	gen, first := m.gen+1, m.first(m.gen+1)
	top := modelTop(modelRead(m.d, first, m.n))
	if len(records) > 0 && top+uint64(len(records)) > math.MaxUint32 {
		return api.Full
	}
	var l [][]byte
	for i, record := range records {
		l = append(l, modelSplit(gen, uint32(top)+1+uint32(i), record)...)
	}
	if len(records) == 0 {
		l = append(l, make([]byte, 64))
	}
	for i, b := range l {
		m.d.Write(first+i, b)
	}
	m.d.Flush()
	m.d.Write(int(gen&1), modelRoot(gen))
	m.d.Flush()
	m.gen, m.records, m.used, m.top = gen, copies(records), n, top+uint64(len(records))
	return m.end()
}

// lentRecords are records with room around the list, and around each of them, that isn't the call's to read or write, and what all of it was.
type lentRecords struct {
	l, all, was [][]byte
	texts       []string
}

func lendRecords(records [][]byte) lentRecords {
	all := [][]byte{{7}}
	for _, record := range records {
		room := slices.Concat([]byte{71, 72, 73}, record, []byte{81, 82, 83})
		all = append(all, room[3:3+len(record)])
	}
	all = append(all, []byte{7}, []byte{8})
	r := lentRecords{l: all[1 : 1+len(records)], all: all, was: slices.Clone(all)}
	for _, b := range all {
		r.texts = append(r.texts, string(b[:cap(b)]))
	}
	return r
}

// takeBack sees to it that nothing was changed, and writes all over, so that a ledger that keeps it can be told.
func (r lentRecords) takeBack(t *testing.T) {
	t.Helper()
	for i, b := range r.all {
		if len(b) != len(r.was[i]) || string(r.was[i][:cap(r.was[i])]) != r.texts[i] || string(b[:cap(b)]) != r.texts[i] {
			t.Fatalf("rule 3: what was handed in was changed: %.20x is now %.20x", r.texts[i], b)
		}
	}
	for _, b := range r.all {
		b = b[:cap(b)]
		for i := range b {
			b[i] ^= 0xa5
		}
	}
	clear(r.all)
}

// pair is a ledger, and the model's beside it, each on a disk of its own: each step is done to both.
type pair struct {
	t    *testing.T
	d, m *disk.Disk
	l    *ledger.Ledger
	want *model
}

// newDisks are the disks of a pair, without a ledger as yet.
func newDisks(t *testing.T, sectors int) *pair {
	t.Helper()
	d, _ := disk.New(sectors)
	m, _ := disk.New(sectors)
	return &pair{t: t, d: d, m: m}
}

func newPair(t *testing.T, sectors int) *pair {
	t.Helper()
	p := newDisks(t, sectors)
	p.open()
	return p
}

// each does to both disks what no ledger has to do with.
func (p *pair) each(do func(d *disk.Disk)) {
	do(p.d)
	do(p.m)
}

func (p *pair) write(i int, b []byte) { p.each(func(d *disk.Disk) { d.Write(i, b) }) }

func (p *pair) flush() { p.each(func(d *disk.Disk) { d.Flush() }) }

func (p *pair) plan(stop int) { p.each(func(d *disk.Disk) { d.Plan(stop) }) }

func (p *pair) up(choices ...byte) { p.each(func(d *disk.Disk) { d.Up(choices) }) }

// cut has the power gone; nothing is pending then.
func (p *pair) cut() {
	p.flush()
	p.plan(1)
	p.flush()
}

// put has sectors flushed, from one on; nothing: torn.
func (p *pair) put(first int, sectors ...[]byte) {
	for i, b := range sectors {
		if b == nil {
			p.write(first+i, make([]byte, 64))
			p.up(2)
			continue
		}
		p.write(first+i, b)
		p.flush()
	}
}

// open opens the ledger, again, too; none is there beside a code.
func (p *pair) open() api.Code {
	p.t.Helper()
	l, e := ledger.Open(p.d)
	want, f := modelOpen(p.m)
	if e != f || l == nil != (want == nil) {
		p.t.Fatalf("P9.1: Open: %v %v, not %v", l, e, f)
	}
	p.l, p.want = l, want
	p.check()
	return e
}

func (p *pair) append(record []byte) api.Code {
	p.t.Helper()
	r := lendRecords([][]byte{record})
	got, want := p.l.Append(r.l[0]), p.want.append(record)
	r.takeBack(p.t)
	if got != want {
		p.t.Fatalf("P9.2: Append of %v bytes: %v, not %v", len(record), got, want)
	}
	p.check()
	return got
}

func (p *pair) compact(records ...[]byte) api.Code {
	p.t.Helper()
	r := lendRecords(records)
	got, want := p.l.Compact(r.l), p.want.compact(records)
	r.takeBack(p.t)
	if got != want {
		p.t.Fatalf("P9.3: Compact of %v records: %v, not %v", len(records), got, want)
	}
	p.check()
	return got
}

// check sees to it that all that can be told of the ledger, and of its disk, is the model's.
func (p *pair) check() {
	p.t.Helper()
	if got, want := p.d.Down(), p.m.Down(); got != want {
		p.t.Fatalf("P9.2: the power is gone: %v, not %v", got, want)
	}
	p.same("is there as", p.d.Image(), p.m.Image())
	n := p.d.Sectors()
	p.same("is read as", modelRead(p.d, 0, n), modelRead(p.m, 0, n))
	if p.l == nil {
		return
	}
	w := p.want
	if got := p.l.Records(); !sameRecords(got, w.records) {
		p.t.Fatalf("P9.1: Records(): %.8x, not %.8x", got, w.records)
	}
	if free, used, gen := p.l.Free(), p.l.Used(), p.l.Gen(); free != w.n-w.used || used != w.used || gen != w.gen {
		p.t.Fatalf("P9.1: Free(), Used(), Gen(): %v %v %v, not %v %v %v", free, used, gen, w.n-w.used, w.used, w.gen)
	}
}

func (p *pair) same(what string, got, want [][]byte) {
	p.t.Helper()
	for i, b := range got {
		if !bytes.Equal(b, want[i]) {
			p.t.Fatalf("P9.2: sector %v %v %v, not %v", i, what, b, want[i])
		}
	}
}

func sameRecords(l, m [][]byte) bool { return slices.EqualFunc(l, m, bytes.Equal) }

// copies are records in memory of their own.
func copies(records [][]byte) [][]byte {
	var l [][]byte
	for _, record := range records {
		l = append(l, bytes.Clone(record))
	}
	return l
}

// row is a record of n bytes, all of them c.
func row(c byte, n int) []byte { return bytes.Repeat([]byte{c}, n) }

// dice gives the same numbers in each run.
type dice uint64

func (d *dice) next(n int) int {
	*d = *d*6364136223846793005 + 1442695040888963407
	return int(uint64(*d) >> 33 % uint64(n))
}

func (d *dice) bytes(n int) []byte {
	b := make([]byte, n)
	for i := range b {
		b[i] = byte(d.next(256))
	}
	return b
}
