package ledger_test

import (
	"slices"
	"testing"

	"heijunka/api"
)

// grounds lay what may be on a disk of 22 sectors, whose halves have 10, ahead of a call.
func grounds() []func(p *pair) {
	old := [][]byte{row(31, 60), row(32, 20)}
	return []func(p *pair){
		func(p *pair) {},
		func(p *pair) { p.append(old[0]); p.append(old[1]) },
		func(p *pair) { p.compact(old...) },
		func(p *pair) { p.compact(old...); p.compact(old[1]) },
		func(p *pair) { // an Append was cut off: of its cells the second one is there
			p.append(old[1])
			p.plan(4)
			p.append(row(33, 110))
			p.up(0, 1, 2)
			p.open()
		},
		func(p *pair) { // a Compact was cut off, all cells there
			p.append(old[1])
			p.plan(7)
			p.compact(row(34, 20), row(35, 60), row(36, 60))
			p.up(2)
			p.open()
		},
		func(p *pair) { // two were, and what is left is compacted over
			for c := range byte(2) {
				p.plan(7)
				p.compact(row(37+c, 20), row(39, 60), row(40, 60))
				p.up(1, 0, 1, 1, 2)
				p.open()
			}
			p.compact(old[1])
		},
		func(p *pair) { // one was, and one has compacted to none
			p.plan(7)
			p.compact(row(41, 20), row(42, 60), row(43, 60))
			p.up()
			p.open()
			p.compact()
		},
		func(p *pair) { // all is torn
			p.put(0, make([][]byte, 22)...)
			p.open()
		},
		func(p *pair) { // others' cells, of great numbers
			for i, b := range slices.Concat(modelSplit(9, 70, row(44, 110)), modelSplit(1, 71, row(45, 110)), modelSplit(0, 72, row(46, 60))) {
				p.put(4+i, b)
				p.put(12+i, b)
			}
			p.open()
		},
		func(p *pair) { // nothing is free
			for p.l.Free() > 0 {
				p.append(row(47, 60)[:min(60, 49*p.l.Free())])
			}
		},
	}
}

// choicesFor are all choices for so many pending writes.
func choicesFor(writes int) [][]byte {
	l := [][]byte{{}}
	for range writes {
		var longer [][]byte
		for _, b := range l {
			for c := range byte(3) {
				longer = append(longer, append(slices.Clone(b), c))
			}
		}
		l = longer
	}
	return l
}

// losing is a call during which the power goes: which sorts of steps it begins (w: a write, f: a flush), and the records behind it.
type losing struct {
	steps string
	do    func(p *pair) api.Code
	then  func(was [][]byte) [][]byte
}

func appending(record []byte, steps string) losing {
	return losing{
		steps,
		func(p *pair) api.Code { return p.append(record) },
		func(was [][]byte) [][]byte { return append(slices.Clone(was), record) },
	}
}

func compacting(steps string, records ...[]byte) losing {
	return losing{
		steps,
		func(p *pair) api.Code { return p.compact(records...) },
		func(was [][]byte) [][]byte { return records },
	}
}

// pendingAt is how many writes are pending when the power goes ahead of a step.
func (x losing) pendingAt(stop int) int {
	n := 0
	for _, step := range x.steps[:min(stop-1, len(x.steps))] {
		n++
		if step == 'f' {
			n = 0
		}
	}
	return n
}

func losses() []losing {
	return []losing{
		appending(row(51, 49), "wf"),
		appending(row(52, 50), "wwf"),
		appending(row(53, 196), "wwwwf"),
		compacting("wfwf"),
		compacting("wfwf", row(54, 20)),
		compacting("wwfwf", row(55, 20), row(56, 49)),
		compacting("wwwwwfwf", row(57, 60), row(58, 20), row(59, 98)),
	}
}

// Wherever the power goes, and whatever becomes of what is pending: opened again, all is as ahead of the call, or as behind it.
func TestLossDuringACall(t *testing.T) {
	for i, lay := range grounds() {
		for k, x := range losses() {
			counts := [2]int{}
			for stop := 1; stop <= len(x.steps)+1; stop++ {
				for _, choices := range choicesFor(x.pendingAt(stop)) {
					p := newPair(t, 22)
					lay(p)
					was := p.l.Records()
					p.plan(stop)
					e := x.do(p)
					if e == api.Full {
						continue
					}
					if (e == api.Down) != (stop <= len(x.steps)) {
						t.Fatalf("P9.2: call %v on ground %v, stop %v: %v", k, i, stop, e)
					}
					counts[comesOut(p, x, e, was, choices)]++
				}
			}
			if counts[0] == 0 && i != len(grounds())-1 || counts[1] == 0 && counts[0] > 0 {
				t.Errorf("call %v on ground %v: old and new so often: %v", k, i, counts)
			}
		}
	}
}

// comesOut has the power come again, and tells which of both the records are, 0 the old ones; the ledger goes on then.
func comesOut(p *pair, x losing, e api.Code, was [][]byte, choices []byte) int {
	p.t.Helper()
	if e == api.Down {
		isLost(p)
	}
	p.up(choices...)
	p.open()
	got, then := p.l.Records(), x.then(was)
	isOld, isNew := sameRecords(got, was), sameRecords(got, then)
	if !isOld && !isNew || e == api.OK && !isNew {
		p.t.Fatalf("P9.4: choices %v: %v, neither %v nor %v", choices, got, was, then)
	}
	goOn(p)
	if isOld && e == api.Down {
		return 0
	}
	return 1
}

// goOn sees to it that what comes behind a loss is as if there hadn't been one.
func goOn(p *pair) {
	p.t.Helper()
	was := p.l.Records()
	if p.l.Free() > 0 {
		record := row(61, min(60, 49*p.l.Free()))
		was = append(was, record)
		if e := p.append(record); e != api.OK {
			p.t.Fatalf("P9.2: behind a loss: %v", e)
		}
	}
	p.up(2, 2, 2)
	p.open()
	if l := p.l.Records(); !sameRecords(l, was) {
		p.t.Fatalf("P9.4: behind a loss: %v, not %v", l, was)
	}
	if e := p.compact(was...); e != api.OK {
		p.t.Fatalf("P9.3: behind a loss: %v", e)
	}
	p.up(2, 2, 2)
	p.open()
	if l := p.l.Records(); !sameRecords(l, was) {
		p.t.Fatalf("P9.4: behind a loss: %v, not %v", l, was)
	}
}

// Looking after a loss may be cut, too: from cut to cut all is as ahead of the call, or as behind it.
func TestCutAgainAndAgain(t *testing.T) {
	calls := []losing{
		appending(row(71, 60), "wwf"),
		compacting("wfwf"),
		compacting("wwfwf", row(72, 20), row(73, 20)),
		compacting("wwwfwf", row(74, 98), row(75, 20)),
	}
	fates := [][]byte{{0, 0, 0}, {1, 1, 1}, {2, 2, 2}, {0, 1, 2}, {1, 0, 1}, {1, 2, 0}}
	const rounds = 40
	for seed := range 1000 {
		d := dice(seed)
		p := newPair(t, 18+2*d.next(3))
		for round := range rounds {
			x := calls[d.next(len(calls))]
			was := p.l.Records()
			p.plan(1 + d.next(len(x.steps)+2))
			e := x.do(p)
			p.up(fates[d.next(len(fates))]...)
			p.open()
			then := was
			if e == api.OK || e == api.Down {
				then = x.then(was)
			}
			got := p.l.Records()
			if isNew := sameRecords(got, then); !isNew && (e == api.OK || !sameRecords(got, was)) {
				t.Fatalf("P9.4: run %v, round %v, %v: %v, then %v", seed, round, e, was, got)
			}
		}
	}
}

// All ways in which two Compacts in a row may be cut, one after the other, with an Append behind them.
func TestTwoCompactsThatAreCut(t *testing.T) {
	first, second := row(81, 20), row(82, 60)
	calls := []losing{compacting("wfwf"), compacting("wwfwf", first, []byte{7}), compacting("wwwfwf", second, first)}
	for _, x := range calls {
		for _, y := range calls {
			for k := range len(x.steps) + 1 {
				for _, a := range choicesFor(x.pendingAt(k + 1)) {
					for n := range len(y.steps) + 1 {
						for _, b := range choicesFor(y.pendingAt(n + 1)) {
							p := newPair(t, 18)
							p.append(row(83, 20))
							cutOff(p, x, k+1, a)
							cutOff(p, y, n+1, b)
							cutOff(p, appending(row(84, 60), "wwf"), 9, nil)
						}
					}
				}
			}
		}
	}
}

// cutOff does a call with the power going at a step, and holds what is there then against the old and the new.
func cutOff(p *pair, x losing, stop int, choices []byte) {
	p.t.Helper()
	was := p.l.Records()
	p.plan(stop)
	e := x.do(p)
	p.up(choices...)
	p.open()
	got := p.l.Records()
	if isNew := sameRecords(got, x.then(was)); !isNew && (e == api.OK || !sameRecords(got, was)) {
		p.t.Fatalf("P9.4: stop %v, choices %v, %v: %v, then %v", stop, choices, e, was, got)
	}
}

// Long runs of all that may happen to a ledger, against the model.
func TestLongRuns(t *testing.T) {
	for seed := range 300 {
		d := dice(seed)
		p := newPair(t, 18+d.next(30))
		counts := map[api.Code]int{}
		for range 300 {
			counts[step(p, &d)]++
		}
		if counts[api.OK] < 50 || counts[api.Down] < 10 {
			t.Fatalf("a run without events: %v", counts)
		}
	}
}

// step does one thing, and tells its code.
func step(p *pair, d *dice) api.Code {
	switch d.next(12) {
	case 0, 1:
		p.plan(d.next(12))
	case 2, 3:
		if p.d.Down() || d.next(4) == 0 {
			p.up(d.bytes(d.next(12))...)
			p.check()
		}
	case 4, 5:
		if !p.d.Down() {
			return p.open()
		}
	case 6, 7:
		l := make([][]byte, d.next(4))
		for i := range l {
			l[i] = d.anyRecord()
		}
		return p.compact(l...)
	default:
		return p.append(d.anyRecord())
	}
	return api.OK
}

// anyRecord is one of some length, now and then none.
func (d *dice) anyRecord() []byte {
	switch d.next(80) {
	case 0:
		return nil
	case 1:
		return row(1, 393)
	}
	return d.bytes(1 + d.next(150))
}
