package seg

import (
	"iter"
	"math"

	"heijunka/api"
	"heijunka/cell"
)

// Add: records are added. Arg, Full, Down.
func (s *Seg) Add(records [][]byte) api.Code {
	if code := s.takes(records); code != api.OK {
		return code
	}
	if s.Down() {
		return api.Down
	}
	if len(records) == 0 {
		return api.OK
	}
	end, code := s.write(records)
	if code == api.OK {
		code = s.Flush()
	}
	if code != api.OK { // which of the writes are there, a Scan alone can tell
		s.forget()
		return code
	}
	s.end, s.top = end, s.top+uint32(len(records))
	return api.OK
}

// takes: whether all are records that it has room and numbers for. Arg, Full.
func (s *Seg) takes(records [][]byte) api.Code {
	sectors := 0
	for _, record := range records {
		need := cell.Need(len(record))
		if need == 0 {
			return api.Arg
		}
		sectors += need
	}
	if sectors > s.Free() || uint64(len(records)) > uint64(math.MaxUint32-s.top) {
		return api.Full
	}
	return api.OK
}

// write lets all records' cells be pending, and tells the sector behind them. Down.
func (s *Seg) write(records [][]byte) (int, api.Code) {
	end := s.end
	for x := range s.cells(records) {
		b, code := cell.Encode(x)
		if code == api.OK {
			code = s.Write(end, b)
		}
		if code != api.OK {
			return 0, code
		}
		end++
	}
	return end, api.OK
}

// cells gives the cells of records that are added, each record's number one more than that of the one ahead.
func (s *Seg) cells(records [][]byte) iter.Seq[api.Cell] {
	return func(yield func(api.Cell) bool) {
		for i, record := range records {
			l, _ := cell.Split(s.gen, s.top+1+uint32(i), record)
			for _, x := range l {
				if !yield(x) {
					return
				}
			}
		}
	}
}
