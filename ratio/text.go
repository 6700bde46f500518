package ratio

import (
	"strings"

	"heijunka/api"
	"heijunka/nat"
	"heijunka/whole"
)

const (
	minus   = "-"
	by      = "/"
	point   = "."
	maxText = 1000 // characters of a text that is parsed
)

// Text: a fraction's text.
func Text(a api.Rat) string {
	a = Plain(a)
	if whole.Cmp(a.Den, whole.Of(1)) == 0 {
		return whole.Text(a.Num)
	}
	return whole.Text(a.Num) + by + whole.Text(a.Den)
}

// Parse: the fraction of a text.
func Parse(s string) (api.Rat, bool) {
	if len(s) > maxText {
		return zero(), false
	}
	a, ok := written(s)
	if !ok {
		return zero(), false
	}
	return lowest(a), true
}

// written is the fraction as the text has it, which may be, but need not be plain.
func written(s string) (api.Rat, bool) {
	if num, den, ok := strings.Cut(s, by); ok {
		return quotient(num, den)
	}
	if head, digits, ok := strings.Cut(s, point); ok {
		return decimal(head, digits)
	}
	num, ok := whole.Parse(s)
	return api.Rat{Num: num, Den: whole.Of(1)}, ok
}

// quotient is the fraction of what stands ahead of the stroke, and behind it.
func quotient(num, den string) (api.Rat, bool) {
	n, okNum := whole.Parse(num)
	d, okDen := nat.Parse(den)
	a := api.Rat{Num: n, Den: api.Int{Mag: d}}
	return a, okNum && okDen && May(a)
}

// decimal is the fraction of what stands ahead of the point, and behind it. The sign is read here, as a 0 may have one.
func decimal(head, digits string) (api.Rat, bool) {
	size, neg := strings.CutPrefix(head, minus)
	n, okHead := nat.Parse(size)
	part, okPart := places(digits)
	if !okHead || !okPart {
		return api.Rat{}, false
	}
	scale, _ := nat.Parse("1" + strings.Repeat("0", len(digits)))
	num := api.Int{Neg: neg, Mag: nat.Add(nat.Mul(n, scale), part)}
	return api.Rat{Num: num, Den: api.Int{Mag: scale}}, true
}

// places is the number of the digits behind a point, of which the first ones may be 0, as nat's may not.
func places(digits string) ([]uint32, bool) {
	tail := strings.TrimLeft(digits, "0")
	if tail == "" {
		return nil, digits != ""
	}
	return nat.Parse(tail)
}
