package root_test

import (
	"bytes"
	"encoding/binary"
	"hash/crc32"
	"math"
	"slices"
	"testing"

	"heijunka/api"
	"heijunka/disk"
	"heijunka/root"
)

// seal is what is sealed behind its sum, whatever it says.
func seal(body []byte) []byte {
	return append(binary.LittleEndian.AppendUint32(nil, crc32.ChecksumIEEE(body)), body...)
}

// modelSector is a cell as a sector; what it says need not be what a cell may.
func modelSector(x api.Cell) []byte {
	b := binary.LittleEndian.AppendUint32(nil, x.Gen)
	b = binary.LittleEndian.AppendUint32(b, x.Seq)
	b = append(b, byte(x.Part), byte(x.Parts), byte(len(x.Data)))
	b = append(b, x.Data...)
	return seal(append(b, make([]byte, 60-len(b))...))
}

// modelRoot is a generation's root as a sector; of 0, which has none, what it would be.
func modelRoot(gen uint32) []byte {
	return modelSector(api.Cell{Gen: gen, Parts: 1, Data: []byte{'r', 'o', 'o', 't'}})
}

// modelSays are all generations whose roots lie in a disk's two sectors, each in its own.
func modelSays(d *disk.Disk) []uint32 {
	l := []uint32{0}
	for i := range 2 {
		b, e := d.Read(i)
		if e != api.OK {
			continue
		}
		gen := binary.LittleEndian.Uint32(b[4:])
		if gen >= 1 && gen&1 == uint32(i) && bytes.Equal(b, modelRoot(gen)) {
			l = append(l, gen)
		}
	}
	return l
}

func modelLoad(d *disk.Disk) (uint32, api.Code) {
	switch {
	case d.Down():
		return 0, api.Down
	case d.Sectors() < 2:
		return 0, api.Arg
	}
	return slices.Max(modelSays(d)), api.OK
}

func modelSave(d *disk.Disk, gen uint32) api.Code {
	if d.Sectors() < 2 || gen == 0 {
		return api.Arg
	}
	d.Write(int(gen&1), modelRoot(gen))
	if !d.Down() {
		d.Flush()
	}
	if d.Down() {
		return api.Down
	}
	return api.OK
}

// pair is a disk whose roots are the program's, and one whose roots are the model's: each step is done to both.
type pair struct {
	t    *testing.T
	d, m *disk.Disk
}

func newPair(t *testing.T, sectors int) pair {
	t.Helper()
	d, _ := disk.New(sectors)
	m, _ := disk.New(sectors)
	return pair{t, d, m}
}

// each does to both what no root has to do with.
func (p pair) each(do func(d *disk.Disk)) {
	do(p.d)
	do(p.m)
}

func (p pair) write(i int, b []byte) { p.each(func(d *disk.Disk) { d.Write(i, b) }) }

func (p pair) flush() { p.each(func(d *disk.Disk) { d.Flush() }) }

func (p pair) plan(stop int) { p.each(func(d *disk.Disk) { d.Plan(stop) }) }

func (p pair) up(choices ...byte) { p.each(func(d *disk.Disk) { d.Up(choices) }) }

// cut has the power gone; nothing is pending then.
func (p pair) cut() {
	p.flush()
	p.plan(1)
	p.flush()
}

// put has a sector flushed; nothing: torn.
func (p pair) put(i int, b []byte) {
	if b == nil {
		p.flush()
		p.write(i, make([]byte, 64))
		p.up(2)
		return
	}
	p.write(i, b)
	p.flush()
}

func (p pair) load() (uint32, api.Code) {
	p.t.Helper()
	got, e := root.Load(p.d)
	want, f := modelLoad(p.m)
	if got != want || e != f {
		p.t.Fatalf("P8.1: Load: %v %v, not %v %v", got, e, want, f)
	}
	p.check()
	return got, e
}

func (p pair) save(gen uint32) api.Code {
	p.t.Helper()
	got, want := root.Save(p.d, gen), modelSave(p.m, gen)
	if got != want {
		p.t.Fatalf("P8.2: Save(%v): %v, not %v", gen, got, want)
	}
	p.check()
	return got
}

// check sees to it that all that can be told of the disk is the model's.
func (p pair) check() {
	p.t.Helper()
	if got, want := p.d.Down(), p.m.Down(); got != want {
		p.t.Fatalf("P8.2: the power is gone: %v, not %v", got, want)
	}
	there, wanted := p.d.Image(), p.m.Image()
	for i := range p.d.Sectors() {
		if !bytes.Equal(there[i], wanted[i]) {
			p.t.Fatalf("P8.2: in sector %v is %v, not %v", i, there[i], wanted[i])
		}
		got, e := p.d.Read(i)
		want, f := p.m.Read(i)
		if e != f || !bytes.Equal(got, want) {
			p.t.Fatalf("P8.2: sector %v is read as %v %v, not %v %v", i, got, e, want, f)
		}
	}
}

// row is a sector's bytes, all of them c.
func row(c byte) []byte { return bytes.Repeat([]byte{c}, 64) }

// gens are generations on both sides of what a byte, two, three and four hold, and of half of that.
func gens() []uint32 {
	l := []uint32{1, 2, 3, 4, 5}
	for _, bits := range []int{7, 8, 15, 16, 23, 24, 31} {
		l = append(l, 1<<bits-1, 1<<bits, 1<<bits+1)
	}
	return append(l, math.MaxUint32-2, math.MaxUint32-1, math.MaxUint32)
}

// dice gives the same numbers in each run.
type dice uint64

func (d *dice) next(n int) int {
	*d = *d*6364136223846793005 + 1442695040888963407
	return int(uint64(*d) >> 33 % uint64(n))
}
