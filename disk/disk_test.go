package disk_test

import (
	"bytes"
	"math"
	"testing"

	"heijunka/api"
	"heijunka/disk"
)

func TestNew(t *testing.T) {
	for _, n := range []int{1, 2, 3, 18, 511, 512} {
		newPair(t, n).check()
	}
	for _, n := range []int{0, -1, -512, 513, 514, 1 << 20, math.MaxInt, math.MinInt} {
		if d, e := disk.New(n); e != api.Arg || d != nil {
			t.Errorf("P5.1: New(%v): %v %v", n, d, e)
		}
	}
}

// A new disk is 0, and no two sectors, or disks, are one.
func TestSectorsAreTheirOwn(t *testing.T) {
	p, other := newPair(t, 512), newPair(t, 512)
	d := dice(1)
	for i := range 512 {
		p.write(i, d.bytes(64))
	}
	p.check()
	p.flush()
	p.check()
	other.check()
}

// A write is seen at once, and lies there from a flush on.
func TestWriteAndFlush(t *testing.T) {
	p := newPair(t, 3)
	p.write(1, row(7))
	p.check()
	if b, e := p.d.Read(1); e != api.OK || !bytes.Equal(b, row(7)) {
		t.Errorf("P5.1: a pending write isn't seen: %v %v", b, e)
	}
	if m := p.d.Image(); !bytes.Equal(m[1], row(0)) {
		t.Errorf("P5.3: a pending write is there: %v", m[1])
	}
	p.write(1, row(8))
	p.write(0, row(9))
	p.check()
	p.flush()
	p.check()
	if m := p.d.Image(); !bytes.Equal(m[0], row(9)) || !bytes.Equal(m[1], row(8)) || !bytes.Equal(m[2], row(0)) {
		t.Errorf("P5.3: what was flushed isn't there: %v", m)
	}
	p.flush()
	p.check()
	p.write(1, row(7))
	p.check()
}

// Every byte of a sector counts.
func TestBytesOfASector(t *testing.T) {
	p := newPair(t, 1)
	for i := range api.SectorLen {
		b := row(0)
		b[i] = 255
		p.write(0, b)
		p.check()
		p.flush()
		p.check()
	}
}

func TestArg(t *testing.T) {
	for _, n := range []int{1, 4, 512} {
		p := newPair(t, n)
		p.write(0, row(3))
		for _, i := range []int{-1, -512, n, n + 1, 512, 1 << 32, math.MaxInt, math.MinInt} {
			if e := p.write(i, row(1)); e != api.Arg {
				t.Errorf("P5.1: Write(%v): %v of %v", i, e, n)
			}
			if b, e := p.d.Read(i); e != api.Arg || len(b) != 0 {
				t.Errorf("P5.1: Read(%v): %v %v of %v", i, b, e, n)
			}
		}
		for _, length := range []int{0, 1, 63, 65, 128, 1 << 20} {
			for _, i := range []int{-1, 0, n - 1, n} {
				if e := p.write(i, make([]byte, length)); e != api.Arg {
					t.Errorf("P5.1: Write of %v bytes: %v", length, e)
				}
			}
		}
		if e := p.d.Write(0, nil); e != api.Arg {
			t.Errorf("P5.1: Write of nothing: %v", e)
		}
		p.check()
	}
}

// Down comes ahead of Arg, Arg ahead of a plan's Down; a Write that is Arg leaves the plan.
func TestOrderOfCodes(t *testing.T) {
	p := newPair(t, 2)
	p.plan(1)
	for _, e := range []api.Code{p.write(2, row(1)), p.write(0, row(1)[1:]), p.write(-1, nil)} {
		if e != api.Arg {
			t.Errorf("P5.1: ahead of the loss: %v", e)
		}
	}
	p.check()
	if e := p.write(0, row(1)); e != api.Down || !p.d.Down() {
		t.Errorf("P5.1: at the loss: %v", e)
	}
	for _, e := range []api.Code{p.write(2, row(1)), p.write(0, row(1)[1:]), p.write(-1, nil), p.write(0, row(1)), p.flush()} {
		if e != api.Down {
			t.Errorf("P5.1: behind the loss: %v", e)
		}
	}
	for i := -1; i < 3; i++ {
		if b, e := p.d.Read(i); e != api.Down || len(b) != 0 {
			t.Errorf("P5.1: Read(%v) behind the loss: %v %v", i, b, e)
		}
	}
	p.check()
}

// A torn sector is read again where a write to it is pending, or there; a lost one leaves it torn.
func TestTorn(t *testing.T) {
	for choice, want := range []api.Code{api.Torn, api.OK, api.Torn} {
		p := newPair(t, 2)
		p.write(1, row(1))
		p.flush()
		p.write(1, row(2))
		p.up(2)
		p.check()
		if b, e := p.d.Read(1); e != api.Torn || len(b) != 0 {
			t.Errorf("P5.1: Read of a torn sector: %v %v", b, e)
		}
		if m := p.d.Image(); m[1] != nil {
			t.Errorf("P5.3: a torn sector: %v", m[1])
		}
		p.flush() // it isn't written
		p.check()
		p.write(1, row(3))
		p.check()
		if b, e := p.d.Read(1); e != api.OK || !bytes.Equal(b, row(3)) {
			t.Errorf("P5.1: a write to a torn sector: %v %v", b, e)
		}
		if m := p.d.Image(); m[1] != nil {
			t.Errorf("P5.3: a torn sector, and a write that is pending: %v", m[1])
		}
		p.up(byte(choice))
		p.check()
		if _, e := p.d.Read(1); e != want {
			t.Errorf("P5.2: a write to a torn sector, and choice %v: %v", choice, e)
		}
		p.write(1, row(4))
		p.flush()
		p.check()
		if b, e := p.d.Read(1); e != api.OK || !bytes.Equal(b, row(4)) {
			t.Errorf("P5.1: a torn sector that was flushed: %v %v", b, e)
		}
	}
}

// Where the power is gone, the image is as flushes left it, till it is known what became of the pending writes.
func TestImageWithoutPower(t *testing.T) {
	p := newPair(t, 3)
	p.write(0, row(1))
	p.write(1, row(1))
	p.flush()
	p.plan(4)
	p.write(0, row(2))
	p.write(1, row(2))
	p.write(2, row(2))
	p.flush()
	p.check()
	if m := p.d.Image(); !bytes.Equal(m[0], row(1)) || !bytes.Equal(m[1], row(1)) || !bytes.Equal(m[2], row(0)) {
		t.Errorf("P5.3: without power: %v", m)
	}
	p.up(1, 2)
	p.check()
	if m := p.d.Image(); !bytes.Equal(m[0], row(2)) || m[1] != nil || !bytes.Equal(m[2], row(0)) {
		t.Errorf("P5.3: with power again: %v", m)
	}
}

// Answers have memory of their own: to write over one changes no other.
func TestAnswersShareNothing(t *testing.T) {
	p := newPair(t, 2)
	for range 2 {
		p.write(0, row(5))
		for range 2 {
			one, _ := p.d.Read(0)
			two, _ := p.d.Read(0)
			first, second := p.d.Image(), p.d.Image()
			want := bytes.Clone(second[0])
			clear(one)
			for i := range first {
				for k := range first[i] {
					first[i][k] = 99
				}
			}
			first[1] = nil
			if !bytes.Equal(two, row(5)) || !bytes.Equal(second[0], want) || !bytes.Equal(second[1], row(0)) {
				t.Errorf("rule 3: %v %v", two, second)
			}
			p.check()
			p.flush()
		}
	}
}
