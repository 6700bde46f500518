package ledger

import (
	"heijunka/api"
	"heijunka/cell"
	"heijunka/disk"
	"heijunka/seg"
)

const (
	roots  = 2  // sectors that roots lie in
	halves = 2  // what the others are cut into
	least  = 18 // sectors of a disk that a ledger lies on
)

// half is how many sectors each half has.
func half(d *disk.Disk) int { return (d.Sectors() - roots) / halves }

// first is the first sector of a generation's half. The next one's is the other: so what counts isn't written over ahead of what will.
func first(d *disk.Disk, gen uint32) int { return roots + int(gen%halves)*half(d) }

// segment is a generation's segment, of which nothing is known yet.
func segment(d *disk.Disk, gen uint32) *seg.Seg {
	s, code := seg.New(d, first(d, gen), half(d), gen)
	must(code)
	return s
}

// fill has a segment begun anew, with these records. Full, Down.
func fill(s *seg.Seg, records [][]byte) {
	must(s.Begin())
	if len(records) == 0 { // nothing will lie over what a Compact that was cut off left there, of this generation, too
		must(s.Write(first(s.Disk, s.Gen()), make([]byte, api.SectorLen)))
		must(s.Flush())
	}
	must(s.Add(records))
}

// need is how many sectors records take. Arg.
func need(records [][]byte) int {
	sectors := 0
	for _, record := range records {
		n := cell.Need(len(record))
		if n == 0 {
			panic(refusal(api.Arg))
		}
		sectors += n
	}
	return sectors
}
