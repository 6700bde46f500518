package disk

// What becomes of a pending write when the power goes.
const (
	lost = iota
	there
	torn
	fates // how many there are
)

// Plan: when the power goes.
func (d *Disk) Plan(stop int) { d.left = max(stop, 0) }

// Up: the power goes, and is there again.
func (d *Disk) Up(choices []byte) {
	waiting := wait(choices[:min(len(choices), len(d.pending))])
	for _, w := range d.pending {
		switch next(waiting) {
		case there:
			d.there[w.sector] = w.b
		case torn:
			d.there[w.sector] = nil
		}
	}
	copy(d.seen, d.there)
	d.pending, d.gone, d.left = nil, false, 0
}

// Down: whether the power is gone.
func (d *Disk) Down() bool { return d.gone }

// begin counts a write or flush that is begun, and tells whether it may be done: else the power goes ahead of it.
func (d *Disk) begin() bool {
	if d.left == 0 {
		return true
	}
	d.left--
	d.gone = d.left == 0
	return !d.gone
}

// wait lets choices wait in a channel that has room for all of them, and is closed behind the last.
func wait(choices []byte) <-chan byte {
	waiting := make(chan byte, len(choices))
	for _, c := range choices {
		waiting <- c
	}
	close(waiting)
	return waiting
}

// next is the fate that the next choice means; beyond their end the closed channel gives 0.
func next(waiting <-chan byte) int {
	select {
	case c := <-waiting:
		return int(c % fates)
	default:
		return lost
	}
}
