package cert

import (
	"heijunka/api"
	"heijunka/lin"
	"heijunka/ratio"
)

// all tells whether each row has n numbers, and what is asked holds in each column of them.
func all(n int, asked func(x []api.Rat) bool, rows ...[]api.Rat) bool {
	if !lin.Rect(rows, n) {
		return false
	}
	for j := range n {
		if !asked(column(j, rows...)) {
			return false
		}
	}
	return true
}

// column is what stands at place j of each row.
func column(j int, rows ...[]api.Rat) []api.Rat {
	list := make([]api.Rat, len(rows))
	for i, row := range rows {
		list[i] = row[j]
	}
	return list
}

// by is a row by another one of its length.
func by(a, b []api.Rat) api.Rat {
	sum, _ := lin.Dot(a, b)
	return sum
}

func zeros(n int) []api.Rat {
	list := make([]api.Rat, n)
	for i := range list {
		list[i] = zero()
	}
	return list
}

func zero() api.Rat {
	x, _ := ratio.Of(0, 1)
	return x
}

// sign is how x stands to 0.
func sign(x api.Rat) int {
	return ratio.Cmp(x, zero())
}
