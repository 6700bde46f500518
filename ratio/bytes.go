package ratio

import (
	"heijunka/api"
	"heijunka/nat"
	"heijunka/whole"
)

// Bytes: a fraction as bytes.
func Bytes(a api.Rat) []byte {
	a = Plain(a)
	num, den := whole.Bytes(a.Num), whole.Bytes(a.Den)
	if len(num) == 0 || len(den) == 0 {
		return nil
	}
	return append(num, den...)
}

// Read: the fraction that bytes begin with, and all behind it.
func Read(b []byte) (api.Rat, []byte, bool) {
	num, behind, ok := whole.Read(b)
	if !ok {
		return zero(), nil, false
	}
	den, behind, ok := whole.Read(behind)
	a := api.Rat{Num: num, Den: den}
	if !ok || !isPlain(a) {
		return zero(), nil, false
	}
	return a, behind, true
}

// isPlain tells it of a fraction of plain numbers.
func isPlain(a api.Rat) bool {
	return May(a) && nat.Cmp(nat.Gcd(a.Num.Mag, a.Den.Mag), []uint32{1}) == 0
}
