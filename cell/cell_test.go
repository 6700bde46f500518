package cell_test

import (
	"bytes"
	"math"
	"slices"
	"testing"

	"heijunka/api"
	"heijunka/cell"
)

// many are cells of all shapes near what may be, and some far from it.
func many() []api.Cell {
	d := dice(1)
	var l []api.Cell
	for parts := -2; parts <= 11; parts++ {
		for part := -2; part <= 11; part++ {
			for _, n := range []int{0, 1, 2, 3, 25, 47, 48, 49, 50, 51, 60, 64, 255, 256, 257, 305} {
				l = append(l, api.Cell{Gen: d.word(), Seq: d.word(), Part: part, Parts: parts, Data: d.bytes(n)})
			}
		}
	}
	far := []int{math.MinInt, math.MinInt32, -256, -255, -1, 0, 1, 8, 255, 256, 257, 258, 263, 264, 1 << 32, 1<<32 + 1, math.MaxInt - 1, math.MaxInt}
	for _, parts := range far {
		for _, part := range far {
			l = append(l, api.Cell{Part: part, Parts: parts, Data: d.bytes(49)})
		}
	}
	for n := range 50 {
		l = append(l, api.Cell{Parts: 1, Data: make([]byte, n)}, api.Cell{Part: 7, Parts: 8, Data: bytes.Repeat([]byte{255}, n)})
	}
	return append(l, api.Cell{}, api.Cell{Parts: 1, Data: make([]byte, 1<<20)})
}

// mayBe are those of many that may be.
func mayBe(t *testing.T) []api.Cell {
	t.Helper()
	l := slices.DeleteFunc(many(), func(x api.Cell) bool { return !modelMay(x) })
	if len(l) < 150 {
		t.Fatalf("only %v cells", len(l))
	}
	return l
}

func wantMalformed(t *testing.T, b []byte, what string) {
	t.Helper()
	l := lend(b)
	x, e := cell.Decode(l.b)
	l.takeBack(t)
	if e != api.Malformed || !zero(x) {
		t.Fatalf("P6.1: Decode of %v: %v %v", what, x, e)
	}
}

func wantDecode(t *testing.T, b []byte, want api.Cell) {
	t.Helper()
	l := lend(b)
	x, e := cell.Decode(l.b)
	l.takeBack(t)
	if e != api.OK || !same(x, want) {
		t.Fatalf("P6.1: Decode of %v: %v %v, not %v", b, x, e, want)
	}
}

func TestMay(t *testing.T) {
	for _, x := range many() {
		l := lend(x.Data)
		got := cell.May(api.Cell{Gen: x.Gen, Seq: x.Seq, Part: x.Part, Parts: x.Parts, Data: l.b})
		l.takeBack(t)
		if got != modelMay(x) {
			t.Fatalf("P6.1: May of part %v of %v, %v bytes: %v", x.Part, x.Parts, len(x.Data), got)
		}
	}
}

// Which cells may be hangs on how many bytes there are: all counts, of the last part and of others.
func TestMayOfAllLengths(t *testing.T) {
	for n := range 300 {
		data := make([]byte, n)
		for _, c := range []struct {
			part, parts int
			want        bool
		}{
			{0, 1, n >= 1 && n <= 49},
			{7, 8, n >= 1 && n <= 49},
			{0, 2, n == 49},
			{6, 8, n == 49},
			{8, 8, false},
			{0, 9, false},
			{8, 9, false},
			{-1, 1, false},
			{-1, 0, false},
			{0, 0, false},
		} {
			if got := cell.May(api.Cell{Part: c.part, Parts: c.parts, Data: data}); got != c.want {
				t.Errorf("P6.1: May of part %v of %v, %v bytes: %v", c.part, c.parts, n, got)
			}
		}
	}
}

func TestEncode(t *testing.T) {
	for _, x := range many() {
		l := lend(x.Data)
		got, e := cell.Encode(api.Cell{Gen: x.Gen, Seq: x.Seq, Part: x.Part, Parts: x.Parts, Data: l.b})
		l.takeBack(t)
		if !modelMay(x) {
			if e != api.Arg || len(got) != 0 {
				t.Fatalf("P6.1: Encode of part %v of %v, %v bytes: %v %v", x.Part, x.Parts, len(x.Data), got, e)
			}
			continue
		}
		if want := modelSector(x); e != api.OK || !bytes.Equal(got, want) {
			t.Fatalf("P6.1: Encode of %v: %v %v, not %v", x, got, e, want)
		}
	}
}

func TestEncodeExamples(t *testing.T) {
	for _, c := range []struct {
		x    api.Cell
		want []byte
	}{
		{api.Cell{Gen: 1, Parts: 1, Data: []byte("root")}, []byte{1, 0, 0, 0, 0, 0, 0, 0, 0, 1, 4, 'r', 'o', 'o', 't', 0}},
		{api.Cell{Gen: 0x04030201, Seq: 0xfffefdfc, Part: 7, Parts: 8, Data: []byte{0}}, []byte{1, 2, 3, 4, 0xfc, 0xfd, 0xfe, 0xff, 7, 8, 1, 0}},
		{api.Cell{Seq: 1 << 31, Part: 0, Parts: 2, Data: bytes.Repeat([]byte{9}, 49)}, append([]byte{0, 0, 0, 0, 0, 0, 0, 128, 0, 2, 49}, bytes.Repeat([]byte{9}, 49)...)},
	} {
		want := seal(append(c.want, make([]byte, 60-len(c.want))...))
		if got, e := cell.Encode(c.x); e != api.OK || !bytes.Equal(got, want) {
			t.Errorf("P6.1: Encode of %v: %v %v, not %v", c.x, got, e, want)
		}
	}
}

func TestDecode(t *testing.T) {
	for _, x := range mayBe(t) {
		wantDecode(t, modelSector(x), x)
	}
	d := dice(2)
	for range 3000 {
		x := d.cell()
		wantDecode(t, modelSector(x), x)
	}
}

// A sector has 64 bytes: fewer, or more, are none, though their sum be right.
func TestDecodeOfOtherLengths(t *testing.T) {
	wantMalformed(t, nil, "nothing")
	for _, x := range []api.Cell{
		{Gen: 1, Seq: 2, Parts: 1, Data: []byte{5}},
		{Gen: 1, Seq: 2, Part: 1, Parts: 2, Data: bytes.Repeat([]byte{5}, 48)},
		{Gen: 1, Seq: 2, Part: 0, Parts: 2, Data: bytes.Repeat([]byte{5}, 49)},
	} {
		sector, body := modelSector(x), modelBody(x)
		for n := range 200 {
			if n == 60 {
				continue
			}
			odd := append(bytes.Clone(body), make([]byte, 200)...)[:n]
			wantMalformed(t, seal(odd), "a sealed body of another length")
			if n < 64 {
				wantMalformed(t, sector[:n], "a sector that ends too soon")
			} else if n > 64 {
				wantMalformed(t, append(bytes.Clone(sector), make([]byte, n-64)...), "a sector, and bytes behind it")
			}
		}
	}
	wantMalformed(t, make([]byte, 1<<22), "very many bytes")
}

func TestDecodeOfUnsealedBytes(t *testing.T) {
	wantMalformed(t, make([]byte, 64), "a sector of a new disk")
	wantMalformed(t, bytes.Repeat([]byte{255}, 64), "bytes 255")
	d := dice(3)
	for range 5000 {
		wantMalformed(t, d.bytes(64), "any bytes")
	}
	for range 10 {
		sector := modelSector(d.cell())
		for i := range sector {
			for turned := 1; turned < 256; turned++ {
				odd := bytes.Clone(sector)
				odd[i] ^= byte(turned)
				wantMalformed(t, odd, "a sector of which a byte is another")
			}
		}
	}
}

// What no cell is says so though its sum be right: each byte that tells a part, how many, and how many bytes there are, of each value.
func TestDecodeOfSealedBytes(t *testing.T) {
	wantMalformed(t, seal(make([]byte, 60)), "bytes 0 that are sealed")
	d := dice(4)
	for _, x := range []api.Cell{
		{Part: 0, Parts: 1, Data: d.bytes(1)},
		{Part: 0, Parts: 2, Data: d.bytes(49)},
		{Part: 1, Parts: 2, Data: d.bytes(49)},
		{Part: 7, Parts: 8, Data: d.bytes(30)},
	} {
		for part := range 256 {
			for parts := range 256 {
				body := modelBody(x)
				body[8], body[9] = byte(part), byte(parts)
				y := api.Cell{Part: part, Parts: parts, Data: x.Data}
				if modelMay(y) {
					wantDecode(t, seal(body), y)
				} else {
					wantMalformed(t, seal(body), "a part that may not be")
				}
			}
		}
	}
	for n := range 256 {
		body := modelBody(api.Cell{Parts: 1, Data: []byte{}})
		body[10] = byte(n)
		if n >= 1 && n <= 49 {
			wantDecode(t, seal(body), api.Cell{Parts: 1, Data: make([]byte, n)})
		} else {
			wantMalformed(t, seal(body), "so many bytes")
		}
		body[9] = 2
		if n == 49 {
			wantDecode(t, seal(body), api.Cell{Parts: 2, Data: make([]byte, n)})
		} else {
			wantMalformed(t, seal(body), "so many bytes of the first part of two")
		}
	}
}

// Behind the data stands nothing but bytes 0, each of them.
func TestDecodeOfOtherBytesBehindTheData(t *testing.T) {
	d := dice(5)
	for n := 1; n <= 49; n++ {
		x := api.Cell{Gen: d.word(), Seq: d.word(), Part: 2, Parts: 3, Data: d.bytes(n)}
		for i := 11 + n; i < 60; i++ {
			for _, c := range []byte{1, 128, 255, byte(1 + d.next(255))} {
				body := modelBody(x)
				body[i] = c
				wantMalformed(t, seal(body), "other bytes behind the data")
			}
		}
	}
}

// All 64 bytes hang on the cell: one that is decoded is encoded as it was.
func TestWhatIsDecodedIsEncoded(t *testing.T) {
	d := dice(6)
	for range 20000 {
		body := modelBody(d.cell())
		body[8+d.next(52)] = byte(d.next(60))
		sector := seal(body)
		x, e := cell.Decode(sector)
		if e != api.OK {
			if e != api.Malformed || !zero(x) {
				t.Fatalf("P6.1: Decode of %v: %v %v", sector, x, e)
			}
			continue
		}
		if again, e := cell.Encode(x); e != api.OK || !bytes.Equal(again, sector) {
			t.Fatalf("P6.3: %v is decoded, and encoded %v %v", sector, again, e)
		}
	}
}

func TestWhatIsEncodedIsDecoded(t *testing.T) {
	for _, x := range mayBe(t) {
		sector, _ := cell.Encode(x)
		if y, e := cell.Decode(sector); e != api.OK || !same(x, y) {
			t.Fatalf("P6.3: %v is encoded, and decoded %v %v", x, y, e)
		}
	}
}

// Answers have memory of their own: to write over one, or its room, changes no other.
func TestSectorsAndCellsShareNothing(t *testing.T) {
	x := api.Cell{Gen: 1, Seq: 2, Part: 1, Parts: 2, Data: []byte("twenty bytes of data")}
	want := modelSector(x)
	first, _ := cell.Encode(x)
	second, _ := cell.Encode(x)
	clear(first[:cap(first)])
	wantDecode(t, second, x)
	one, _ := cell.Decode(second)
	two, _ := cell.Decode(second)
	clear(one.Data[:cap(one.Data)])
	if !same(two, x) || !bytes.Equal(second, want) {
		t.Errorf("rule 3: %v, of %v", two, second)
	}
}
