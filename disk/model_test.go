package disk_test

import (
	"bytes"
	"slices"
	"strings"
	"testing"

	"heijunka/api"
	"heijunka/disk"
)

// row is a sector's bytes, all of them c.
func row(c byte) []byte { return bytes.Repeat([]byte{c}, api.SectorLen) }

// model is a disk, as the document's words tell it.
type model struct {
	there   []string // "": torn
	pending []entry
	gone    bool
	begun   int // writes and flushes, since the plan
	stop    int
}

type entry struct {
	sector int
	text   string
}

func newModel(sectors int) *model {
	return &model{there: slices.Repeat([]string{strings.Repeat("\x00", 64)}, sectors)}
}

func (m *model) read(i int) (string, api.Code) {
	if m.gone {
		return "", api.Down
	}
	if i < 0 || i >= len(m.there) {
		return "", api.Arg
	}
	for _, e := range slices.Backward(m.pending) {
		if e.sector == i {
			return e.text, api.OK
		}
	}
	if m.there[i] == "" {
		return "", api.Torn
	}
	return m.there[i], api.OK
}

// begin is the code of a write or flush that is begun.
func (m *model) begin() api.Code {
	m.begun++
	if m.stop >= 1 && m.begun == m.stop {
		m.gone = true
		return api.Down
	}
	return api.OK
}

func (m *model) write(i int, b []byte) api.Code {
	if m.gone {
		return api.Down
	}
	if i < 0 || i >= len(m.there) || len(b) != 64 {
		return api.Arg
	}
	e := m.begin()
	if e == api.OK {
		m.pending = append(m.pending, entry{i, string(b)})
	}
	return e
}

func (m *model) flush() api.Code {
	if m.gone {
		return api.Down
	}
	e := m.begin()
	if e == api.OK {
		m.settle(slices.Repeat([]byte{1}, len(m.pending)))
	}
	return e
}

// settle sees to it that pending writes are as the choices say.
func (m *model) settle(choices []byte) {
	for k, e := range m.pending {
		choice := 0
		if k < len(choices) {
			choice = int(choices[k]) % 3
		}
		if choice != 0 {
			m.there[e.sector] = []string{1: e.text, 2: ""}[choice]
		}
	}
	m.pending = nil
}

func (m *model) plan(stop int) { m.begun, m.stop = 0, stop }

func (m *model) up(choices []byte) {
	m.settle(choices)
	m.gone, m.stop = false, 0
}

// lent are bytes with room around them that isn't the call's to read or write, and what all of it was.
type lent struct {
	b        []byte
	all, was []byte
}

func lend(b []byte) lent {
	all := slices.Concat([]byte{71, 72, 73, 74, 75}, b, []byte{82, 83, 85, 86, 88})
	return lent{b: all[5 : 5+len(b)], all: all, was: slices.Clone(all)}
}

// takeBack sees to it that nothing was changed, and writes all over, so that a disk that keeps it can be told.
func (l lent) takeBack(t *testing.T) {
	t.Helper()
	if !bytes.Equal(l.all, l.was) {
		t.Fatalf("rule 3: what was handed in was changed: %.99v is now %.99v", l.was, l.all)
	}
	for i := range l.all {
		l.all[i] ^= 0xa5
	}
}

// pair is a disk, and the model's beside it: each step is done to both.
type pair struct {
	t *testing.T
	d *disk.Disk
	m *model
}

func newPair(t *testing.T, sectors int) pair {
	t.Helper()
	d, e := disk.New(sectors)
	if e != api.OK || d == nil {
		t.Fatalf("P5.1: New(%v): %v %v", sectors, d, e)
	}
	return pair{t, d, newModel(sectors)}
}

func (p pair) write(i int, b []byte) api.Code {
	p.t.Helper()
	l := lend(b)
	got, want := p.d.Write(i, l.b), p.m.write(i, b)
	l.takeBack(p.t)
	if got != want {
		p.t.Fatalf("P5.1: Write(%v, %v bytes): %v, not %v", i, len(b), got, want)
	}
	return got
}

func (p pair) flush() api.Code {
	p.t.Helper()
	got, want := p.d.Flush(), p.m.flush()
	if got != want {
		p.t.Fatalf("P5.1: Flush(): %v, not %v", got, want)
	}
	return got
}

func (p pair) plan(stop int) {
	p.d.Plan(stop)
	p.m.plan(stop)
}

func (p pair) up(choices ...byte) {
	p.t.Helper()
	l := lend(choices)
	p.d.Up(l.b)
	l.takeBack(p.t)
	p.m.up(choices)
}

// check sees to it that all that can be told of the disk is the model's. What it is told it writes over, so that a disk that keeps it can be told, too.
func (p pair) check() {
	p.t.Helper()
	if got, want := p.d.Sectors(), len(p.m.there); got != want {
		p.t.Fatalf("P5.1: Sectors(): %v, not %v", got, want)
	}
	if got, want := p.d.Down(), p.m.gone; got != want {
		p.t.Fatalf("P5.2: Down(): %v, not %v", got, want)
	}
	for i := -2; i < len(p.m.there)+2; i++ {
		p.checkRead(i)
	}
	p.checkImage()
}

func (p pair) checkRead(i int) {
	p.t.Helper()
	got, e := p.d.Read(i)
	want, f := p.m.read(i)
	if string(got) != want || e != f {
		p.t.Fatalf("P5.1: Read(%v): %.9v %v, not %.9q %v", i, got, e, want, f)
	}
	clear(got)
}

func (p pair) checkImage() {
	p.t.Helper()
	image := p.d.Image()
	if len(image) != len(p.m.there) {
		p.t.Fatalf("P5.3: Image(): %v sectors", len(image))
	}
	for i, b := range image {
		if string(b) != p.m.there[i] {
			p.t.Fatalf("P5.3: Image(), sector %v: %.9v, not %.9q", i, b, p.m.there[i])
		}
		_ = append(b, 1, 2, 3) // the room behind isn't another sector's
		clear(b)
	}
}

// dice gives the same numbers in each run.
type dice uint64

func (d *dice) next(n int) int {
	*d = *d*6364136223846793005 + 1442695040888963407
	return int(uint64(*d) >> 33 % uint64(n))
}

func (d *dice) bytes(n int) []byte {
	b := make([]byte, n)
	for i := range b {
		b[i] = byte(d.next(256))
	}
	return b
}
