package nat

const (
	maxDigits = 40000      // of a text that is parsed
	group     = 9          // digits that a limb has room for
	groupBase = 1000000000 // 10, as often as a group has digits
	wide      = 10         // digits that a limb gives at most
)

// Text: decimal digits.
func Text(a []uint32) string {
	a = Trim(a)
	if len(a) == 0 {
		return "0"
	}
	out := make([]byte, wide*len(a)+group)
	at := len(out)
	for len(a) > 0 {
		rest := divShort(a, groupBase)
		a = cut(a)
		at -= group
		putDigits(out[at:at+group], rest)
	}
	for out[at] == '0' {
		at++
	}
	return string(out[at:])
}

// putDigits fills out with the last digits of n.
func putDigits(out []byte, n uint32) {
	for i := range len(out) {
		out[len(out)-1-i] = byte('0' + n%10)
		n /= 10
	}
}

// Parse: the number of decimal digits.
func Parse(s string) ([]uint32, bool) {
	if !isNumber(s) {
		return nil, false
	}
	out := make([]uint32, 0, len(s)/group+1)
	first := len(s) % group
	out = pushGroup(out, s[:first])
	for i := range len(s) / group {
		at := first + group*i
		out = pushGroup(out, s[at:at+group])
	}
	return out, true
}

// isNumber tells whether s is digits, as Text has them.
func isNumber(s string) bool {
	if len(s) == 0 || len(s) > maxDigits || s[0] == '0' && len(s) > 1 {
		return false
	}
	for i := range len(s) {
		if s[i] < '0' || s[i] > '9' {
			return false
		}
	}
	return true
}

// pushGroup writes a group's digits behind those of a, in a's memory; a stays trimmed.
func pushGroup(a []uint32, digits string) []uint32 {
	var carry uint64
	for i := range len(digits) {
		carry = 10*carry + uint64(digits[i]-'0')
	}
	for i := range len(a) {
		carry += uint64(a[i]) * groupBase
		a[i] = uint32(carry)
		carry >>= 32
	}
	if carry != 0 {
		a = append(a, uint32(carry))
	}
	return a
}
