package cell_test

import (
	"bytes"
	"encoding/binary"
	"hash/crc32"
	"slices"
	"testing"

	"heijunka/api"
)

// modelMay tells it as the document's words do.
func modelMay(x api.Cell) bool {
	n := len(x.Data)
	return 0 <= x.Part && x.Part <= x.Parts-1 && 1 <= x.Parts && x.Parts <= 8 && 1 <= n && n <= 49 && (n == 49 || x.Part == x.Parts-1)
}

// seal is what is sealed behind its sum, whatever it says.
func seal(body []byte) []byte {
	return append(binary.LittleEndian.AppendUint32(nil, crc32.ChecksumIEEE(body)), body...)
}

// modelBody is what the sector of a cell that may be has behind its sum.
func modelBody(x api.Cell) []byte {
	b := binary.LittleEndian.AppendUint32(nil, x.Gen)
	b = binary.LittleEndian.AppendUint32(b, x.Seq)
	b = append(b, byte(x.Part), byte(x.Parts), byte(len(x.Data)))
	b = append(b, x.Data...)
	return append(b, make([]byte, 60-len(b))...)
}

func modelSector(x api.Cell) []byte { return seal(modelBody(x)) }

// modelSplit takes a record's bytes one by one.
func modelSplit(gen, seq uint32, record []byte) []api.Cell {
	var l []api.Cell
	for i, c := range record {
		if i%49 == 0 {
			l = append(l, api.Cell{Gen: gen, Seq: seq, Part: i / 49})
		}
		l[len(l)-1].Data = append(l[len(l)-1].Data, c)
	}
	for i := range l {
		l[i].Parts = len(l)
	}
	return l
}

// modelJoin is the record that is split into these, if there is one.
func modelJoin(l []api.Cell) ([]byte, bool) {
	var record []byte
	for _, x := range l {
		record = append(record, x.Data...)
	}
	if len(record) < 1 || len(record) > 392 {
		return nil, false
	}
	return record, sameCells(l, modelSplit(l[0].Gen, l[0].Seq, record))
}

func same(x, y api.Cell) bool {
	return x.Gen == y.Gen && x.Seq == y.Seq && x.Part == y.Part && x.Parts == y.Parts && bytes.Equal(x.Data, y.Data)
}

func sameCells(l, m []api.Cell) bool { return slices.EqualFunc(l, m, same) }

// zero: whether a cell is the zero value, of which the data may be empty as well as nil.
func zero(x api.Cell) bool { return same(x, api.Cell{}) }

// lent are bytes with room around them that isn't the call's to read or write, and what all of it was.
type lent struct {
	b        []byte
	all, was []byte
}

func lend(b []byte) lent {
	all := slices.Concat([]byte{71, 72, 73, 74, 75}, b, []byte{81, 82, 83, 84, 85})
	return lent{b: all[5 : 5+len(b)], all: all, was: slices.Clone(all)}
}

// takeBack sees to it that nothing was changed, and writes all over, so that an answer that shares it can be told.
func (l lent) takeBack(t *testing.T) {
	t.Helper()
	if !bytes.Equal(l.all, l.was) {
		t.Fatalf("rule 3: what was handed in was changed: %.99v is now %.99v", l.was, l.all)
	}
	for i := range l.all {
		l.all[i] ^= 0xa5
	}
}

// lentCells are cells with room around them, and with data that has such room, too.
type lentCells struct {
	l        []api.Cell
	all, was []api.Cell
	data     []lent
}

func lendCells(l []api.Cell) lentCells {
	odd := api.Cell{Gen: 7, Seq: 7, Part: 7, Parts: 8, Data: []byte{7}}
	c := lentCells{all: []api.Cell{odd}}
	for _, x := range l {
		d := lend(x.Data)
		x.Data = d.b
		c.data = append(c.data, d)
		c.all = append(c.all, x)
	}
	c.all = append(c.all, odd)
	c.l, c.was = c.all[1:1+len(l)], slices.Clone(c.all)
	return c
}

func (c lentCells) takeBack(t *testing.T) {
	t.Helper()
	if !sameCells(c.all, c.was) {
		t.Fatalf("rule 3: the cells that were handed in were changed: %.99v is now %.99v", c.was, c.all)
	}
	for _, d := range c.data {
		d.takeBack(t)
	}
	clear(c.all)
}

// dice gives the same numbers in each run.
type dice uint64

func (d *dice) next(n int) int {
	*d = *d*6364136223846793005 + 1442695040888963407
	return int(uint64(*d) >> 33 % uint64(n))
}

func (d *dice) word() uint32 { return uint32(d.next(1<<16))<<16 | uint32(d.next(1<<16)) }

func (d *dice) bytes(n int) []byte {
	b := make([]byte, n)
	for i := range b {
		b[i] = byte(d.next(256))
	}
	return b
}

// cell is one that may be.
func (d *dice) cell() api.Cell {
	x := api.Cell{Gen: d.word(), Seq: d.word(), Parts: 1 + d.next(8)}
	x.Part = d.next(x.Parts)
	x.Data = d.bytes(49)
	if x.Part == x.Parts-1 {
		x.Data = x.Data[:1+d.next(49)]
	}
	return x
}
