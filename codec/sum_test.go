package codec

import (
	"hash/crc32"
	"math/bits"
	"math/rand"
	"testing"
)

// divided follows P4 word by word: bits in a row, and a long division. It is of at least four bytes.
func divided(bytes string) uint32 {
	var row []int
	for i := range len(bytes) {
		for k := 7; k >= 0; k-- {
			row = append(row, int(bytes[i])>>k&1)
		}
	}
	for i := range 32 {
		row[i] = 1 - row[i]
	}
	row = append(row, make([]int, 32)...)
	for at := 0; at+32 < len(row); at++ {
		if row[at] == 0 {
			continue
		}
		for _, power := range []int{32, 26, 23, 22, 16, 12, 11, 10, 8, 7, 5, 4, 2, 1, 0} {
			row[at+32-power] ^= 1
		}
	}
	left := uint32(0)
	for _, bit := range row[len(row)-32:] {
		left = left<<1 | uint32(1-bit)
	}
	return left
}

// mirrored makes the sum of the library's, which takes the lowest bit of each byte first.
func mirrored(bytes string) uint32 {
	turned := []byte(bytes)
	for i := range turned {
		turned[i] = bits.Reverse8(turned[i])
	}
	return bits.Reverse32(crc32.ChecksumIEEE(turned))
}

func TestP4Example(t *testing.T) {
	if sum := Sum("123456789"); sum != 0xfc891918 {
		t.Errorf("the sum is %08x", sum)
	}
	if s := seal("123456789"); s != "\xfc\x89\x19\x18" {
		t.Errorf("the seal is %x", s)
	}
}

func TestP4Sums(t *testing.T) {
	r := rand.New(rand.NewSource(4))
	for n := 4; n < 300; n++ {
		bytes := make([]byte, n)
		for _, text := range []string{string(bytes), randomBytes(r, n), randomBytes(r, n)} {
			sum := Sum(text)
			if sum != divided(text) || sum != mirrored(text) {
				t.Fatalf("the sum of %x is %08x, by division %08x, by the library %08x", text, sum, divided(text), mirrored(text))
			}
		}
	}
	long := randomBytes(r, 50000)
	if Sum(long) != mirrored(long) {
		t.Error("the sum of many bytes")
	}
}

func randomBytes(r *rand.Rand, n int) string {
	bytes := make([]byte, n)
	for i := range bytes {
		bytes[i] = byte(r.Intn(256))
	}
	return string(bytes)
}
