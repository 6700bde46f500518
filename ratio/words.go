package ratio

import (
	"heijunka/api"
	"heijunka/whole"
)

// words is a fraction of machine words: most fractions are short, and these are reckoned with much faster. It need not be plain, but den is above 0.
type words struct {
	num, den int64
}

// wordEnd is above all sizes that inWords lets through, so that an int64 has room for the sum of two products of such numbers.
const wordEnd = 1 << 31

// inWords is a and b, that may be, as words, and whether both are short enough.
func inWords(a, b api.Rat) (x, y words, ok bool) {
	x, ok = wordsOf(a)
	if !ok {
		return words{}, words{}, false
	}
	y, ok = wordsOf(b)
	return x, y, ok
}

func wordsOf(a api.Rat) (words, bool) {
	num, isNum := whole.Small(a.Num)
	den, isDen := whole.Small(a.Den)
	ok := isNum && isDen && -wordEnd < num && num < wordEnd && den < wordEnd
	return words{num, den}, ok
}

// lowest is w, plain, at any length.
func (w words) lowest() api.Rat {
	common := divisor(w.den, w.num)
	return api.Rat{Num: whole.Of(w.num / common), Den: whole.Of(w.den / common)}
}

// divisor is the greatest one of both, above 0; a isn't 0.
func divisor(a, b int64) int64 {
	for b != 0 {
		a, b = b, a%b
	}
	return max(a, -a)
}
