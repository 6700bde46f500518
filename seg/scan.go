package seg

import (
	"iter"

	"heijunka/api"
	"heijunka/cell"
)

// Scan: its records. Down.
func (s *Seg) Scan() ([][]byte, api.Code) {
	if s.Down() {
		return nil, api.Down
	}
	records, end := s.records()
	s.end, s.top = end, s.greatest()
	return records, api.OK
}

// Begin: records are added from the first sector on. Down.
func (s *Seg) Begin() api.Code {
	if s.Down() {
		return api.Down
	}
	s.end, s.top = s.first, s.greatest() // what still lies there counts for the top: so none of it goes on from what is added
	return api.OK
}

// records are its records, and the sector behind them.
func (s *Seg) records() ([][]byte, int) {
	var records [][]byte
	end, last := s.first, uint32(0)
next:
	for {
		var parts []api.Cell
		for x := range s.following(end) {
			if x.Gen != s.gen || x.Seq <= last {
				return records, end
			}
			parts = append(parts, x)
			if record, code := cell.Join(parts); code == api.OK {
				records = append(records, record)
				end, last = end+len(parts), x.Seq
				continue next
			}
		}
		return records, end
	}
}

// following gives the cells from a sector on, as long as one follows the other.
func (s *Seg) following(sector int) iter.Seq[api.Cell] {
	return func(yield func(api.Cell) bool) {
		for i := sector; i < s.behind; i++ {
			x, ok := s.at(i)
			if !ok || !yield(x) {
				return
			}
		}
	}
}

// greatest is the greatest number of any cell in it, behind its end, too.
func (s *Seg) greatest() uint32 {
	top := uint32(0)
	for i := s.first; i < s.behind; i++ {
		if x, ok := s.at(i); ok {
			top = max(top, x.Seq)
		}
	}
	return top
}

// at is the cell that a sector is, and whether it is one.
func (s *Seg) at(sector int) (api.Cell, bool) {
	b, code := s.Read(sector)
	if code != api.OK {
		return api.Cell{}, false
	}
	x, code := cell.Decode(b)
	return x, code == api.OK
}
