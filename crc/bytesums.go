package crc

// fill fills sums with what each byte comes to by 8 shifts. A byte comes to what its bits come to, exclusive or'd: so each of the 8 bits is worked out once, from the highest on, which falls out last.
func fill(sums *[256]uint32) {
	single := uint32(1)
	for bit := 128; bit > 0; bit /= 2 {
		single = shift(single)
		for higher := 0; higher < len(sums); higher += 2 * bit {
			sums[higher+bit] = sums[higher] ^ single
		}
	}
}

// shift moves a sum on by one bit.
func shift(sum uint32) uint32 {
	if sum&1 == 0 {
		return sum >> 1
	}
	return sum>>1 ^ 0xedb88320
}
