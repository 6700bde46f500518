package disk_test

import (
	"bytes"
	"math"
	"slices"
	"testing"

	"heijunka/api"
)

// The document's example.
func TestALostWrite(t *testing.T) {
	p := newPair(t, 1)
	p.write(0, row(1))
	p.up()
	p.check()
	if b, e := p.d.Read(0); e != api.OK || !bytes.Equal(b, row(0)) {
		t.Errorf("P5.2: a write, and Up of nothing: %v %v", b, e)
	}
}

func TestAllChoices(t *testing.T) {
	for c := range 256 {
		p := newPair(t, 2)
		p.write(0, row(1))
		p.up(byte(c))
		p.check()
		b, e := p.d.Read(0)
		if c%3 == 0 && (e != api.OK || !bytes.Equal(b, row(0))) || c%3 == 1 && (e != api.OK || !bytes.Equal(b, row(1))) || c%3 == 2 && e != api.Torn {
			t.Errorf("P5.2: choice %v: %v %v", c, b, e)
		}
	}
}

// Choices are for the pending writes one by one, the first one first, of one sector too; 0 beyond their end; and more of them than writes mean nothing.
func TestChoicesInOrder(t *testing.T) {
	const writes = 5
	for sectors := range 1 << writes { // which sector each write is for
		for n := range writes + 2 {
			combinations := 1
			for range n {
				combinations *= 3
			}
			for k := range combinations {
				choices := make([]byte, n)
				for i := range choices {
					choices[i] = byte(k % 3)
					k /= 3
				}
				p := newPair(t, 2)
				for i := range writes {
					p.write(sectors>>i&1, row(byte(i+1)))
				}
				p.up(choices...)
				p.check()
				p.up(1, 1, 1) // nothing is pending any more
				p.check()
			}
		}
	}
}

func TestVeryManyChoices(t *testing.T) {
	p := newPair(t, 1)
	p.up(make([]byte, 1<<20)...)
	p.check()
	p.write(0, row(1))
	p.up(slices.Repeat([]byte{1, 2}, 1<<20)...)
	p.check()
	for i := range 1000 {
		p.write(0, row(byte(i)))
	}
	p.up(slices.Repeat([]byte{2, 0, 1}, 333)...) // the last one is lost
	p.check()
	if b, e := p.d.Read(0); e != api.OK || b[0] != 998&255 {
		t.Errorf("P5.2: %v %v", b, e)
	}
}

// Up takes the power away where it is there: what is pending isn't flushed.
func TestUpWithPower(t *testing.T) {
	for stop := range 3 {
		p := newPair(t, 3)
		p.write(0, row(1))
		p.write(1, row(2))
		p.write(2, row(3))
		p.plan(stop)
		p.up(0, 1, 2)
		p.check()
		if e := p.flush(); e != api.OK {
			t.Errorf("P5.2: a plan ahead of Up holds behind it: %v", e)
		}
		p.check()
	}
}

// The power goes ahead of the stop-th write or flush, whichever it is: what was begun then isn't done, nor is it pending.
func TestPlan(t *testing.T) {
	const steps = 6
	for kinds := range 1 << steps {
		for stop := -1; stop <= steps+1; stop++ {
			p := newPair(t, 2)
			p.write(1, row(99))
			p.flush()
			p.plan(stop)
			for i := range steps {
				var e api.Code
				if kinds>>i&1 == 0 {
					e = p.write(i%2, row(byte(i+1)))
				} else {
					e = p.flush()
				}
				if gone := stop >= 1 && i+1 >= stop; gone != (e == api.Down) || gone != p.d.Down() {
					t.Errorf("P5.2: Plan(%v): step %v: %v", stop, i+1, e)
				}
				p.check() // reads aren't counted
			}
			p.up(1, 1, 1, 1, 1, 1)
			p.check()
		}
	}
}

func TestPlansThatNeverStop(t *testing.T) {
	for _, stop := range []int{0, -1, -2, math.MinInt, math.MaxInt} {
		p := newPair(t, 1)
		p.plan(1)
		p.plan(stop) // the plan ahead doesn't hold any more
		for i := range 300 {
			if e := p.write(0, row(byte(i))); e != api.OK {
				t.Fatalf("P5.2: Plan(%v): %v", stop, e)
			}
			if e := p.flush(); e != api.OK {
				t.Fatalf("P5.2: Plan(%v): %v", stop, e)
			}
		}
		p.check()
	}
}

// Each plan counts anew.
func TestPlanAnew(t *testing.T) {
	p := newPair(t, 1)
	p.plan(3)
	p.write(0, row(1))
	p.flush()
	p.plan(3)
	p.check()
	p.write(0, row(2))
	p.flush()
	p.check()
	if e := p.flush(); e != api.Down {
		t.Errorf("P5.2: the third one since the plan: %v", e)
	}
	p.check()
}

// Without power nothing is begun, and a plan that is made then goes with the next Up.
func TestPlanWithoutPower(t *testing.T) {
	for stop := range 4 {
		p := newPair(t, 1)
		p.plan(1)
		p.flush()
		p.plan(stop)
		p.check()
		p.write(0, row(1))
		p.flush()
		p.check()
		p.up(1)
		p.check()
		for range 4 {
			if e := p.write(0, row(2)); e != api.OK {
				t.Errorf("P5.2: Plan(%v) ahead of Up: %v", stop, e)
			}
		}
		p.check()
	}
}

// What was flushed stays, but for sectors that a pending write is for; torn ones stay so, too.
func TestWhatWasFlushedStays(t *testing.T) {
	d := dice(2)
	p := newPair(t, 16)
	for range 3000 {
		for range d.next(6) {
			p.write(d.next(16), d.bytes(64))
		}
		if d.next(3) > 0 {
			p.flush()
		}
		p.up(d.bytes(d.next(4))...)
		was := p.d.Image()
		written := map[int]bool{}
		if d.next(2) == 0 {
			p.plan(1 + d.next(6))
		}
		for range d.next(8) {
			i := d.next(16)
			if p.write(i, d.bytes(64)) == api.OK {
				written[i] = true
			}
		}
		p.up(d.bytes(d.next(9))...)
		p.check()
		for i, b := range p.d.Image() {
			if !written[i] && !bytes.Equal(b, was[i]) {
				t.Fatalf("P5.4: sector %v was lost: %v is now %v", i, was[i], b)
			}
		}
	}
}

// take does step k of those that TestAllShortRuns goes through.
func (p pair) take(k int, c byte) {
	p.t.Helper()
	switch k {
	case 0, 1:
		p.write(k, row(c))
	case 2:
		p.write(2, row(c))
	case 3:
		p.flush()
	case 4, 5, 6:
		p.up(byte(k-4), 1)
	case 7, 8:
		p.plan(k - 6)
	}
}

func TestAllShortRuns(t *testing.T) {
	const kinds, length = 9, 5
	runs := 1
	for range length {
		runs *= kinds
	}
	for run := range runs {
		p := newPair(t, 2)
		for i := range length {
			p.take(run%kinds, byte(i+1))
			run /= kinds
		}
		p.check()
	}
}

func TestLongRuns(t *testing.T) {
	d := dice(3)
	for _, sectors := range []int{1, 2, 7, 512} {
		p := newPair(t, sectors)
		for range 200_000 / (sectors + 20) {
			switch d.next(12) {
			case 0:
				p.flush()
			case 1:
				p.up(d.bytes(d.next(12))...)
			case 2:
				p.plan(d.next(12) - 2)
			case 3:
				p.write(d.next(2*sectors)-sectors/2, d.bytes(63+d.next(3)))
			default:
				p.write(d.next(sectors), d.bytes(64))
			}
			p.check()
		}
	}
}

// What a disk tells hangs on what it was given alone: two that were given the same tell the same, steps between each other or not.
func TestDisksBesideEachOther(t *testing.T) {
	list := []pair{newPair(t, 3), newPair(t, 3), newPair(t, 3)}
	for i := range 2000 {
		for k, p := range list {
			d := dice(uint64(i*4 + k/2)) // the first two are given the same
			p.take(d.next(9), byte(d.next(256)))
			p.check()
		}
		if one, two := list[0].d.Image(), list[1].d.Image(); !slices.EqualFunc(one, two, bytes.Equal) {
			t.Fatalf("rule 5: %v, and %v", one, two)
		}
	}
}
