package ratio_test

import (
	"math/big"
	"regexp"
	"strings"
	"testing"

	"heijunka/ratio"
)

// textOf is a fraction's text, as the plain model has it.
func textOf(x *big.Rat) string {
	if x.IsInt() {
		return x.Num().String()
	}
	return x.String()
}

func TestText(t *testing.T) {
	for _, a := range rats() {
		l := lend(a)
		if got := ratio.Text(l.a); got != textOf(bigRat(a)) {
			t.Fatalf("P3.3: Text of %v: %v", a, got)
		}
		l.takeBack(t)
	}
}

func wantParse(t *testing.T, s string, want *big.Rat) {
	t.Helper()
	got, ok := ratio.Parse(s)
	if !ok || !same(got, ratOf(want)) {
		t.Fatalf("P3.3: Parse of %.60q: %v %v", s, got, ok)
	}
	wantRat(t, got, want, "P3.3: Parse")
}

func wantNoParse(t *testing.T, s string) {
	t.Helper()
	if got, ok := ratio.Parse(s); ok || !isNothing(got) {
		t.Errorf("P3.3: Parse of %.60q: %v %v", s, got, ok)
	}
}

func TestParse(t *testing.T) {
	for _, c := range []struct {
		s        string
		num, den int64
	}{
		{"0", 0, 1}, {"12", 12, 1}, {"-7", -7, 1}, {"9223372036854775807", 1<<63 - 1, 1},
		{"6/4", 3, 2}, {"-6/4", -3, 2}, {"3/2", 3, 2}, {"0/9", 0, 1}, {"5/1", 5, 1}, {"-10/5", -2, 1}, {"2147483648/4294967296", 1, 2},
		{"-1.50", -3, 2}, {"0.25", 1, 4}, {"-0.5", -1, 2}, {"-0.0", 0, 1}, {"-0.000", 0, 1}, {"0.0", 0, 1}, {"10.00", 10, 1},
		{"1.05", 21, 20}, {"-3.001", -3001, 1000}, {"0.10", 1, 10}, {"7.0625", 113, 16}, {"123456789.987654321", 123456789987654321, 1000000000},
		{"0.000000000000000001", 1, 1000000000000000000},
	} {
		wantParse(t, c.s, big.NewRat(c.num, c.den))
	}
}

func TestParseOfOtherTexts(t *testing.T) {
	list := []string{
		"", "-", "--1", "+1", "-0", "00", "01", "-01", " 1", "1 ", "1\n", "1e3", "0x1", "1_0", "½", "１", "-١",
		"/", "1/", "/2", "-/2", "1/0", "0/0", "1/00", "1/-2", "1/+2", "1/02", "-0/5", "00/5", "01/5", "+1/2", "1 /2", "1/ 2", "1//2", "1/2/3", "1/2/", "--1/2", "1/-0", "-1/-2", "1/2-",
		".", "1.", ".1", "-.1", "-.", "-1.", "1..5", "1.5.2", "1.5.", "01.5", "00.5", "-00.5", "-01.5", "+1.5", "--1.5", "1.-5", "1.+5", "1.0-5", "1. 5", "1.5 ", " 1.5", "1.5e1", "1.0x", "1,5", "1.٣", "1.0½",
		"1.2/3", "1/2.5", "1./2", "0.5/0.5", "1/.5", "\x00", "1\x00", "1.\x00", "1.5\x00", "1/2\x00", "\xff", "1.\xff", "1/\xff",
	}
	for _, s := range list {
		wantNoParse(t, s)
	}
	for c := range 256 {
		if c < '0' || c > '9' {
			odd := string([]byte{byte(c)})
			for _, s := range []string{"1." + odd, "1.0" + odd, "1." + odd + "0", "2.5" + odd, "1/" + odd, "1/" + odd + "5", "1/5" + odd, odd + "/5", odd + ".5", "3" + odd} {
				wantNoParse(t, s)
			}
		}
	}
}

// Every short text is a fraction just when the document says so, and that one.
func TestParseOfAllShortTexts(t *testing.T) {
	isFraction := regexp.MustCompile(`^(-?[1-9][0-9]*|0)(/[1-9][0-9]*)?$|^-?(0|[1-9][0-9]*)\.[0-9]+$`)
	list := []string{""}
	for range 6 {
		for _, s := range list {
			if !isFraction.MatchString(s) {
				wantNoParse(t, s)
				continue
			}
			want, ok := new(big.Rat).SetString(s)
			if !ok {
				t.Fatalf("the model doesn't read %q", s)
			}
			wantParse(t, s, want)
		}
		list = longer(list, "-+01/.")
	}
}

// longer is each text with each character behind it.
func longer(list []string, characters string) []string {
	var out []string
	for _, s := range list {
		for _, c := range characters {
			out = append(out, s+string(c))
		}
	}
	return out
}

func TestParseOfLongTexts(t *testing.T) {
	for _, n := range []int{999, 1000, 1001, 1002, 5000} {
		for _, s := range []string{
			strings.Repeat("7", n),
			"-" + strings.Repeat("7", n-1),
			"6/" + strings.Repeat("8", n-2),
			"-" + strings.Repeat("9", n/2) + "/" + strings.Repeat("6", n-n/2-2),
			strings.Repeat("5", n-2) + ".5",
			"0." + strings.Repeat("5", n-2),
			"-0." + strings.Repeat("0", n-3),
			"-1." + strings.Repeat("0", n-4) + "1",
		} {
			if len(s) != n {
				t.Fatalf("%v characters, not %v", len(s), n)
			}
			if n > 1000 {
				wantNoParse(t, s)
				continue
			}
			want, _ := new(big.Rat).SetString(s)
			wantParse(t, s, want)
		}
	}
}

// Text is held to no length, so that what it tells may be too long to be read.
func TestTextOfLongNumbers(t *testing.T) {
	a := ratOf(new(big.Rat).SetFrac(new(big.Int).Lsh(big.NewInt(1), 4000), big.NewInt(3)))
	s := ratio.Text(a)
	if s != textOf(bigRat(a)) {
		t.Errorf("P3.3: Text of 2^4000 by 3: %v", s)
	}
	wantNoParse(t, s)
}
