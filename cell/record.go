package cell

import (
	"bytes"
	"iter"

	"heijunka/api"
)

// Need: how many cells a record of so many bytes has.
func Need(n int) int {
	if n < 1 || n > api.MaxRecord {
		return 0
	}
	return (n + maxData - 1) / maxData
}

// Split: a record's cells. Arg.
func Split(gen, seq uint32, record []byte) ([]api.Cell, api.Code) {
	need := Need(len(record))
	if need == 0 {
		return nil, api.Arg
	}
	l := make([]api.Cell, 0, need)
	for part, data := range parts(bytes.Clone(record)) { // cells share nothing with what was handed in
		l = append(l, api.Cell{Gen: gen, Seq: seq, Part: part, Parts: need, Data: data})
	}
	return l, api.OK
}

// Join: the record of cells. Malformed.
func Join(l []api.Cell) ([]byte, api.Code) {
	if len(l) == 0 {
		return nil, api.Malformed
	}
	record := make([]byte, 0, api.MaxRecord)
	for part, x := range l {
		if !May(x) || x.Part != part || x.Parts != len(l) || x.Gen != l[0].Gen || x.Seq != l[0].Seq {
			return nil, api.Malformed
		}
		record = append(record, x.Data...)
	}
	return record, api.OK
}

// parts gives each part of a record, and which one it is. A part's room ends where it ends: so who puts more behind one doesn't write over the next.
func parts(record []byte) iter.Seq2[int, []byte] {
	return func(yield func(int, []byte) bool) {
		for part := range Need(len(record)) {
			from := part * maxData
			to := min(from+maxData, len(record))
			if !yield(part, record[from:to:to]) {
				return
			}
		}
	}
}
