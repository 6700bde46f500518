package nat_test

import (
	"math/big"
	"slices"
	"strings"
	"testing"

	"heijunka/nat"
)

func checkText(t *testing.T, a []uint32) {
	t.Helper()
	h := hold(a)
	want := bigOf(a).String()
	if got := nat.Text(h.row()); got != want {
		t.Fatalf("P1.2: Text of %v: %v, not %v", a, got, want)
	}
	h.check(t, "Text")
	wantParse(t, want, limbsOf(bigOf(a)))
}

func wantParse(t *testing.T, s string, want []uint32) {
	t.Helper()
	if got, ok := nat.Parse(s); !ok || !slices.Equal(got, want) {
		t.Fatalf("P1.2: Parse of %.60q: %v %v, not %v", s, got, ok, want)
	}
}

func TestText(t *testing.T) {
	for _, a := range rows() {
		checkText(t, a)
	}
	d := dice(5)
	checkText(t, d.row(4096))
	if nat.Text(nil) != "0" || nat.Text([]uint32{0, 0}) != "0" {
		t.Error("P1.2: 0 has one digit")
	}
}

// Zeros within and at the end stay, wherever the digits are cut.
func TestTextOfTens(t *testing.T) {
	ten := []uint32{10}
	power := []uint32{1}
	for n := range 60 {
		text := "1" + strings.Repeat("0", n)
		if got := nat.Text(power); got != text {
			t.Fatalf("P1.2: %v, not %v", got, text)
		}
		wantParse(t, text, power)
		if below, ok := nat.Sub(power, []uint32{1}); ok && n > 0 {
			checkText(t, below)
			checkText(t, nat.Add(power, []uint32{1}))
		}
		power = nat.Mul(power, ten)
	}
}

func TestParseOfEachLength(t *testing.T) {
	const digits = "1234567890987654321012345678909876543210"
	for n := range len(digits) {
		x, _ := new(big.Int).SetString(digits[:n+1], 10)
		wantParse(t, digits[:n+1], limbsOf(x))
	}
	for c := range 10 {
		wantParse(t, string(rune('0'+c)), limbsOf(big.NewInt(int64(c))))
	}
}

func TestParseOfOtherTexts(t *testing.T) {
	list := []string{
		"", " ", "-", "-0", "-1", "+0", "+1", "00", "01", "007", "0x1", "1e3", "1_000", "1,000", "1.0", "1/1",
		" 1", "1 ", "1\n", "\t1", "1\x00", "a", "12a", "a12", "1 2", "\xff", "12\xff", "٣", "1٣", "１", "²", "0 ", "0a",
		"123456789 ", "12345678a0", "1234567890/", "1234567890:",
	}
	for c := range 256 {
		if c < '0' || c > '9' {
			list = append(list, string([]byte{byte(c)}), string([]byte{'1', byte(c), '2'}), "1234567890"+string([]byte{byte(c)}))
		}
	}
	for _, s := range list {
		if a, ok := nat.Parse(s); ok || len(a) != 0 {
			t.Errorf("P1.2: Parse of %q: %v %v", s, a, ok)
		}
	}
}

func TestParseOfLongTexts(t *testing.T) {
	for _, n := range []int{39992, 39999, 40000} {
		s := strings.Repeat("9", n)
		x, _ := new(big.Int).SetString(s, 10)
		wantParse(t, s, limbsOf(x))
		if got := nat.Text(limbsOf(x)); got != s {
			t.Errorf("P1.2: Text of %v digits has %v", n, len(got))
		}
	}
	wantParse(t, "1"+strings.Repeat("0", 39999), limbsOf(new(big.Int).Exp(big.NewInt(10), big.NewInt(39999), nil)))
	for _, s := range []string{strings.Repeat("9", 40001), strings.Repeat("0", 40000), strings.Repeat("1", 90000), strings.Repeat("1", 39999) + "x"} {
		if a, ok := nat.Parse(s); ok || len(a) != 0 {
			t.Errorf("P1.2: %v characters were read", len(s))
		}
	}
}
