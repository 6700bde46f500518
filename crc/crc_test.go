package crc_test

import (
	"bytes"
	"hash/crc32"
	"slices"
	"strings"
	"sync"
	"testing"

	"heijunka/crc"
)

func wantSum(t *testing.T, b []byte, want uint32) {
	t.Helper()
	l := lend(b)
	got := crc.Sum(l.b)
	l.takeBack(t)
	if got != want {
		t.Fatalf("P4.1: Sum of %.99v: %#x, not %#x", b, got, want)
	}
}

func wantOpen(t *testing.T, sealed, want []byte) {
	t.Helper()
	l := lend(sealed)
	got, ok := crc.Open(l.b)
	l.takeBack(t)
	if !ok || !bytes.Equal(got, want) {
		t.Fatalf("P4.2: Open of %.99v: %.99v %v", sealed, got, ok)
	}
}

func wantShut(t *testing.T, b []byte) {
	t.Helper()
	l := lend(b)
	got, ok := crc.Open(l.b)
	l.takeBack(t)
	if ok || len(got) != 0 {
		t.Fatalf("P4.2: Open of %.99v: %.99v %v", b, got, ok)
	}
}

func TestSumExamples(t *testing.T) {
	for text, want := range map[string]uint32{
		"":          0,
		"\x00":      0xd202ef8d,
		"\xff":      0xff000000,
		"a":         0xe8b7be43,
		"abc":       0x352441c2,
		"123456789": 0xcbf43926,
		"The quick brown fox jumps over the lazy dog": 0x414fa339,
		strings.Repeat("\x00", 32):                    0x190a55ad,
		strings.Repeat("\xff", 32):                    0xff6cab0b,
		"\xff\xff\xff\xff":                            0xffffffff,
	} {
		wantSum(t, []byte(text), want)
	}
}

func TestSum(t *testing.T) {
	for _, b := range many() {
		wantSum(t, b, modelSum(b))
		wantSum(t, b, crc32.ChecksumIEEE(b)) // what the document tells is that sum
	}
}

func TestSumOfTwoBytes(t *testing.T) {
	for n := range 1 << 16 {
		b := []byte{byte(n), byte(n >> 8)}
		if got, want := crc.Sum(b), modelSum(b); got != want {
			t.Fatalf("P4.1: Sum of %v: %#x, not %#x", b, got, want)
		}
	}
}

func TestSumOfMillions(t *testing.T) {
	d := dice(2)
	b := d.bytes(3<<20 + 1)
	wantSum(t, b, modelSum(b))
}

func TestSeal(t *testing.T) {
	for _, b := range many() {
		l := lend(b)
		got := crc.Seal(l.b)
		l.takeBack(t)
		if !bytes.Equal(got, modelSeal(b)) {
			t.Fatalf("P4.1: Seal of %.99v: %.99v", b, got)
		}
	}
}

func TestSealExamples(t *testing.T) {
	for _, c := range []struct {
		text string
		want []byte
	}{
		{"", []byte{0, 0, 0, 0}},
		{"abc", []byte{0xc2, 0x41, 0x24, 0x35, 'a', 'b', 'c'}},
		{"123456789", []byte("\x26\x39\xf4\xcb123456789")},
	} {
		if got := crc.Seal([]byte(c.text)); !bytes.Equal(got, c.want) {
			t.Errorf("P4.1: Seal of %q: %x", c.text, got)
		}
	}
}

func TestOpen(t *testing.T) {
	for _, b := range many() {
		wantOpen(t, modelSeal(b), b)
	}
}

// The sum of no bytes is 0: bytes may be whole where nothing stands behind their sum.
func TestOpenOfNothingSealed(t *testing.T) {
	wantOpen(t, []byte{0, 0, 0, 0}, nil)
	for i := range 4 {
		for c := 1; c < 256; c++ {
			b := make([]byte, 4)
			b[i] = byte(c)
			wantShut(t, b)
		}
	}
}

func TestOpenOfBytesThatEndTooSoon(t *testing.T) {
	wantShut(t, nil)
	d := dice(3)
	for _, sealed := range [][]byte{{0, 0, 0, 0}, modelSeal([]byte("abc")), modelSeal(d.bytes(60))} {
		for n := range len(sealed) {
			wantShut(t, sealed[:n:n])
			if got, ok := crc.Open(sealed[:n]); ok || len(got) != 0 { // the room behind isn't there to be read
				t.Errorf("P4.2: Open of %v of %v bytes: %v %v", n, len(sealed), got, ok)
			}
		}
	}
}

func TestOpenOfMoreBytes(t *testing.T) {
	for _, b := range [][]byte{nil, []byte("a"), []byte("123456789")} {
		for c := range 256 {
			wantShut(t, append(modelSeal(b), byte(c)))
		}
	}
}

// Each byte of the sum counts, and where it stands.
func TestOpenOfAnotherSum(t *testing.T) {
	d := dice(4)
	for _, b := range [][]byte{[]byte("a"), []byte("abc"), d.bytes(60)} {
		sealed := modelSeal(b)
		for i := range 4 {
			for turned := 1; turned < 256; turned++ {
				odd := slices.Clone(sealed)
				odd[i] ^= byte(turned)
				wantShut(t, odd)
			}
		}
		greatestFirst := slices.Clone(sealed)
		slices.Reverse(greatestFirst[:4])
		wantShut(t, greatestFirst)
		wantShut(t, append(slices.Clone(b), sealed[:4]...)) // the sum behind
		wantShut(t, b)
	}
}

func TestOpenOfOtherBytes(t *testing.T) {
	d := dice(5)
	for range 2000 {
		b := d.bytes(int(d.next() % 80))
		if len(b) >= 4 && bytes.Equal(modelSeal(b[4:]), b) {
			continue
		}
		wantShut(t, b)
	}
}

// What is sealed may be sealed again.
func TestSealedTwice(t *testing.T) {
	for _, b := range [][]byte{nil, []byte("abc"), []byte("root")} {
		once := crc.Seal(b)
		twice := crc.Seal(once)
		wantOpen(t, twice, once)
		wantOpen(t, once, b)
	}
}

func TestWhatIsSealedIsOpened(t *testing.T) {
	for _, b := range many() {
		if got, ok := crc.Open(crc.Seal(b)); !ok || !bytes.Equal(got, b) {
			t.Fatalf("P4.3: Open of Seal of %.99v: %.99v %v", b, got, ok)
		}
	}
}

// Answers have memory of their own: to write over one changes no other.
func TestAnswersShareNothing(t *testing.T) {
	b := []byte("123456789")
	first, second := crc.Seal(b), crc.Seal(b)
	clear(first)
	wantOpen(t, second, b)
	one, _ := crc.Open(second)
	two, _ := crc.Open(second)
	clear(one)
	if !bytes.Equal(two, b) {
		t.Errorf("rule 3: %v", two)
	}
	wantOpen(t, second, b)
}

// An answer hangs on the bytes alone: not on calls ahead, nor on such as run beside it.
func TestSumsBesideEachOther(t *testing.T) {
	list := many()
	var all sync.WaitGroup
	for k := range 4 {
		all.Go(func() {
			for i := range list {
				b := list[(i*7+k*31)%len(list)]
				if got, want := crc.Sum(b), modelSum(b); got != want {
					t.Errorf("rule 5: Sum of %.99v: %#x, not %#x", b, got, want)
					return
				}
			}
		})
	}
	all.Wait()
}
