package root_test

import (
	"math"
	"testing"

	"heijunka/api"
)

// lasting are generations that have a next one.
func lasting() []uint32 {
	return []uint32{0, 1, 2, 3, 4, 255, 256, 1<<31 - 1, 1 << 31, math.MaxUint32 - 2, math.MaxUint32 - 1}
}

// grounds are what may lie in the next root's sector, ahead of it; nothing: it is torn.
func grounds(next uint32) [][]byte {
	l := [][]byte{nil, row(0), row(7)}
	l = append(l, modelRoot(next-1), modelRoot(next+3)) // roots whose sector is the other
	if next > 2 {
		l = append(l, modelRoot(next-2))
	}
	return append(l, modelSector(api.Cell{Gen: next, Seq: 1, Parts: 1, Data: []byte("root")}))
}

// lay has a generation loaded, and something in the next one's sector.
func lay(t *testing.T, gen uint32, ground []byte) pair {
	t.Helper()
	p := newPair(t, 3)
	if gen > 0 {
		p.put(int(gen%2), modelRoot(gen))
	}
	p.put(int((gen+1)%2), ground)
	return p
}

// Wherever the power goes during the Save of the next generation, and whatever becomes of what is pending: it is the old one, or the new one.
func TestLossDuringASave(t *testing.T) {
	for _, gen := range lasting() {
		for k, ground := range grounds(gen + 1) {
			if got, _ := lay(t, gen, ground).load(); got != gen {
				t.Fatalf("P8.1: ground %v: %v, not %v", k, got, gen)
			}
			counts := map[uint32]int{}
			for stop := 1; stop <= 4; stop++ {
				for _, choice := range []byte{0, 1, 2, 3, 4, 5, 128, 254, 255} {
					counts[loseOnce(lay(t, gen, ground), gen, stop, choice)]++
				}
			}
			if len(counts) != 2 || counts[gen] == 0 || counts[gen+1] == 0 {
				t.Errorf("P8.3: generation %v, ground %v: %v", gen, k, counts)
			}
		}
	}
}

// loseOnce has the power go, and tells the generation behind that.
func loseOnce(p pair, gen uint32, stop int, choices ...byte) uint32 {
	p.t.Helper()
	p.plan(stop)
	e := p.save(gen + 1)
	if (e == api.Down) != (stop <= 2) {
		p.t.Fatalf("P8.2: stop %v: %v", stop, e)
	}
	if got, f := p.load(); f != e || e == api.OK && got != gen+1 {
		p.t.Fatalf("P8.1: stop %v: %v %v", stop, got, f)
	}
	p.up(choices...)
	got, f := p.load()
	if f != api.OK || got != gen && got != gen+1 || e == api.OK && got != gen+1 {
		p.t.Fatalf("P8.3: generation %v, stop %v, choices %v: %v %v", gen, stop, choices, got, f)
	}
	return got
}

// What else is pending may come out in any way: the generation is the old one, or the new one.
func TestLossWithOthersPending(t *testing.T) {
	for _, gen := range lasting() {
		for choices := range 81 {
			for stop := 1; stop <= 3; stop++ {
				p := lay(t, gen, nil)
				p.write(2, modelRoot(gen+2))
				p.write(2, row(7))
				loseOnce(p, gen, stop, byte(choices%3), byte(choices/3%3), byte(choices/9%3), byte(choices/27))
			}
		}
	}
}

// Looking after a loss may be cut, too: from cut to cut it is the old one, or the new one, and without a cut it goes on.
func TestCutAgainAndAgain(t *testing.T) {
	const rounds, ways = 5, 9
	total := 1
	for range rounds {
		total *= ways
	}
	for k := range total {
		p := newPair(t, 2)
		gen := uint32(0)
		for range rounds {
			was := gen
			p.plan(1 + k%3)
			e := p.save(was + 1)
			p.up(byte(k / 3 % 3))
			gen, _ = p.load()
			if gen != was && gen != was+1 || e == api.OK && gen != was+1 {
				t.Fatalf("P8.3: way %v: %v, then %v", k, was, gen)
			}
			k /= ways
		}
		p.save(gen + 1)
		if got, _ := p.load(); got != gen+1 {
			t.Fatalf("P8.2: %v, not %v", got, gen+1)
		}
	}
}

// Behind the last generation there is none: it is refused, and the last one stays.
func TestBehindTheLastGeneration(t *testing.T) {
	p := newPair(t, 2)
	gen := uint32(math.MaxUint32 - 3)
	p.save(gen)
	for gen < math.MaxUint32 {
		gen++
		if e := p.save(gen); e != api.OK {
			t.Errorf("P8.2: Save(%v): %v", gen, e)
		}
	}
	if e := p.save(gen + 1); e != api.Arg {
		t.Errorf("P8.2: behind the last generation: %v", e)
	}
	if got, _ := p.load(); got != math.MaxUint32 {
		t.Errorf("P8.1: %v", got)
	}
}

// Long runs of all that may happen to roots, against the model.
func TestLongRuns(t *testing.T) {
	l := append(kinds(), modelRoot(5), modelRoot(6))
	for seed := range 200 {
		d := dice(seed)
		p := newPair(t, 1+d.next(5))
		saved := 0
		for range 400 {
			if step(p, &d, l) == api.OK {
				saved++
			}
		}
		if p.d.Sectors() >= 2 && saved < 20 {
			t.Fatalf("a run of few saves: %v", saved)
		}
	}
}

// step answers a Save's code; Arg of all else.
func step(p pair, d *dice, l [][]byte) api.Code {
	gen, _ := p.load()
	switch d.next(9) {
	case 0:
		p.plan(d.next(6))
	case 1:
		p.up(byte(d.next(256)), byte(d.next(256)), byte(d.next(256)))
	case 2:
		if b := l[d.next(len(l))]; b != nil {
			p.write(d.next(p.d.Sectors()), b)
		}
	case 3:
		return p.save(uint32(d.next(12)))
	case 4:
		return p.save(gens()[d.next(len(gens()))])
	default:
		if p.d.Down() {
			p.up(byte(d.next(3)), byte(d.next(3)))
		}
		return p.save(gen + 1)
	}
	return api.Arg
}
