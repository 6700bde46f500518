package whole_test

import (
	"math/big"
	"regexp"
	"strings"
	"testing"

	"heijunka/api"
	"heijunka/whole"
)

func TestText(t *testing.T) {
	d := dice(3)
	long := d.row(4096)
	for _, a := range append(ints(), api.Int{Mag: long}, api.Int{Neg: true, Mag: long}) {
		l := lend(a)
		if got := whole.Text(l.a); got != bigOf(a).String() {
			t.Fatalf("P2.2: Text of %v: %.60v", a, got)
		}
		l.takeBack(t)
	}
}

func TestTextOfZero(t *testing.T) {
	for _, mag := range [][]uint32{nil, {0}, {0, 0, 0}} {
		for _, neg := range []bool{false, true} {
			if got := whole.Text(api.Int{Neg: neg, Mag: mag}); got != "0" {
				t.Errorf("P2.2: Text of 0 with %v %v: %v", neg, mag, got)
			}
		}
	}
}

func wantParse(t *testing.T, s string, want *big.Int) {
	t.Helper()
	if got, ok := whole.Parse(s); !ok || !same(got, intOf(want)) {
		t.Fatalf("P2.2: Parse of %.60q: %v %v", s, got, ok)
	}
}

func wantNoParse(t *testing.T, s string) {
	t.Helper()
	if got, ok := whole.Parse(s); ok || !isZero(got) {
		t.Errorf("P2.2: Parse of %.60q: %v %v", s, got, ok)
	}
}

func TestParse(t *testing.T) {
	for _, s := range []string{
		"0", "1", "-1", "9", "-10", "15", "-15", "4294967295", "-4294967296", "9223372036854775808", "-9223372036854775808",
		"18446744073709551616", "-18446744073709551616", "-340282366920938463463374607431768211456",
	} {
		x, _ := new(big.Int).SetString(s, 10)
		wantParse(t, s, x)
	}
}

func TestParseOfOtherTexts(t *testing.T) {
	list := []string{
		"", "-", "--", "--1", "---1", "-0", "--0", "-00", "00", "-01", "01", "+1", "+0", "-+1", "+-1", "1-", "1-1", "0-", "-1-",
		" 1", "- 1", " -1", "-1 ", "-1\n", "1/1", "-1/1", "1.0", "-1.0", "-.5", "-0x1", "-1e3", "-1_0", "-a", "-1a", "−1", "–1", "－1", "-١", "(1)", "-\x00", "-1\x00", "\xff", "-\xff",
	}
	for c := range 256 {
		if c < '0' || c > '9' {
			if c != '-' {
				list = append(list, string([]byte{byte(c), '1'}))
			}
			list = append(list, string([]byte{'-', byte(c), '2'}), string([]byte{'-', '3', byte(c)}), "-1234567890"+string([]byte{byte(c)}))
		}
	}
	for _, s := range list {
		wantNoParse(t, s)
	}
}

// The digits alone are held against layer 1's 40000 characters.
func TestParseOfLongTexts(t *testing.T) {
	for _, n := range []int{39999, 40000} {
		s := strings.Repeat("7", n)
		x, _ := new(big.Int).SetString(s, 10)
		wantParse(t, s, x)
		wantParse(t, "-"+s, x.Neg(x))
	}
	for _, n := range []int{40001, 90000} {
		s := strings.Repeat("7", n)
		wantNoParse(t, s)
		wantNoParse(t, "-"+s)
	}
	wantNoParse(t, strings.Repeat("-", 40000))
	wantNoParse(t, "-"+strings.Repeat("0", 40000))
}

// No text but its own tells a number.
func TestTextIsTheOnlyOne(t *testing.T) {
	isNumber := regexp.MustCompile(`^(0|-?[1-9][0-9]*)$`)
	list := []string{""}
	for range 5 {
		for _, s := range list {
			a, ok := whole.Parse(s)
			if ok != isNumber.MatchString(s) || ok && whole.Text(a) != s {
				t.Errorf("P2.2: Parse of %q: %v %v", s, a, ok)
			}
		}
		list = longer(list, "-+01")
	}
}

// longer is each text with each character behind it.
func longer(list []string, characters string) []string {
	var out []string
	for _, s := range list {
		for _, c := range characters {
			out = append(out, s+string(c))
		}
	}
	return out
}
