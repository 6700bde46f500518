package lin

import (
	"heijunka/api"
	"heijunka/ratio"
	"heijunka/whole"
)

// Most of what stands in tables is 0: that is told first, since what is 0 needs no reckoning.

func zero() api.Rat {
	return api.Rat{Den: whole.Of(1)}
}

// isZero tells whether a counts as 0.
func isZero(a api.Rat) bool {
	return !ratio.May(a) || whole.Cmp(a.Num, api.Int{}) == 0
}

// plain is a, plain.
func plain(a api.Rat) api.Rat {
	if isZero(a) {
		return zero()
	}
	return ratio.Plain(a)
}

// times is the product.
func times(a, b api.Rat) api.Rat {
	if isZero(a) || isZero(b) {
		return zero()
	}
	return ratio.Mul(a, b)
}
