// Package codec: files of tables, written and read.
package codec

// divisor is the polynomial of P4 but for x^32, whose bit falls out at the top.
const divisor = 0x04c11db7

// Sum answers the sum of bytes (P4).
func Sum(bytes string) uint32 {
	left := ^uint32(0) // to begin with ones turns over the first 32 bits
	for i := range len(bytes) {
		left ^= uint32(bytes[i]) << 24
		for range 8 {
			top := left >> 31
			left <<= 1
			if top == 1 {
				left ^= divisor
			}
		}
	}
	return ^left
}

// seal answers the bytes of the sum of bytes, as they stand at a file's end.
func seal(bytes string) string {
	sum := Sum(bytes)
	return string([]byte{byte(sum >> 24), byte(sum >> 16), byte(sum >> 8), byte(sum)})
}
