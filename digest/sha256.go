package digest

import "math/bits"

// The names and numbers here are those of FIPS 180-4, sections 4.1.2, 4.2.2, 5 and 6.2.

const blockSize = 64

var roundConstants = [64]uint32{
	0x428a2f98, 0x71374491, 0xb5c0fbcf, 0xe9b5dba5, 0x3956c25b, 0x59f111f1, 0x923f82a4, 0xab1c5ed5,
	0xd807aa98, 0x12835b01, 0x243185be, 0x550c7dc3, 0x72be5d74, 0x80deb1fe, 0x9bdc06a7, 0xc19bf174,
	0xe49b69c1, 0xefbe4786, 0x0fc19dc6, 0x240ca1cc, 0x2de92c6f, 0x4a7484aa, 0x5cb0a9dc, 0x76f988da,
	0x983e5152, 0xa831c66d, 0xb00327c8, 0xbf597fc7, 0xc6e00bf3, 0xd5a79147, 0x06ca6351, 0x14292967,
	0x27b70a85, 0x2e1b2138, 0x4d2c6dfc, 0x53380d13, 0x650a7354, 0x766a0abb, 0x81c2c92e, 0x92722c85,
	0xa2bfe8a1, 0xa81a664b, 0xc24b8b70, 0xc76c51a3, 0xd192e819, 0xd6990624, 0xf40e3585, 0x106aa070,
	0x19a4c116, 0x1e376c08, 0x2748774c, 0x34b0bcb5, 0x391c0cb3, 0x4ed8aa4a, 0x5b9cca4f, 0x682e6ff3,
	0x748f82ee, 0x78a5636f, 0x84c87814, 0x8cc70208, 0x90befffa, 0xa4506ceb, 0xbef9a3f7, 0xc67178f2,
}

func sha256(text string) [32]byte {
	hash := [8]uint32{
		0x6a09e667, 0xbb67ae85, 0x3c6ef372, 0xa54ff53a, 0x510e527f, 0x9b05688c, 0x1f83d9ab, 0x5be0cd19,
	}
	rest := text
	for len(rest) >= blockSize {
		hash = compress(hash, rest[:blockSize])
		rest = rest[blockSize:]
	}
	for rest = padded(rest, len(text)); rest != ""; rest = rest[blockSize:] {
		hash = compress(hash, rest[:blockSize])
	}
	return asBytes(hash)
}

// padded fills the last bytes of a text up to one or two whole blocks, which end with the text's length in bits.
func padded(rest string, length int) string {
	filled := append([]byte(rest), 0x80)
	for len(filled)%blockSize != blockSize-8 {
		filled = append(filled, 0)
	}
	inBits := uint64(length) * 8
	for shift := 56; shift >= 0; shift -= 8 {
		filled = append(filled, byte(inBits>>shift))
	}
	return string(filled)
}

func compress(hash [8]uint32, block string) [8]uint32 {
	words := schedule(block)
	a, b, c, d, e, f, g, h := hash[0], hash[1], hash[2], hash[3], hash[4], hash[5], hash[6], hash[7]
	for i := range 64 {
		s1 := bits.RotateLeft32(e, -6) ^ bits.RotateLeft32(e, -11) ^ bits.RotateLeft32(e, -25)
		choice := e&f ^ ^e&g
		t1 := h + s1 + choice + roundConstants[i] + words[i]
		s0 := bits.RotateLeft32(a, -2) ^ bits.RotateLeft32(a, -13) ^ bits.RotateLeft32(a, -22)
		majority := a&b ^ a&c ^ b&c
		a, b, c, d, e, f, g, h = t1+s0+majority, a, b, c, d+t1, e, f, g
	}
	return [8]uint32{
		hash[0] + a, hash[1] + b, hash[2] + c, hash[3] + d, hash[4] + e, hash[5] + f, hash[6] + g, hash[7] + h,
	}
}

func schedule(block string) [64]uint32 {
	var words [64]uint32
	for i := range 16 {
		part := block[4*i : 4*i+4]
		words[i] = uint32(part[0])<<24 | uint32(part[1])<<16 | uint32(part[2])<<8 | uint32(part[3])
	}
	for i := 16; i < 64; i++ {
		x, y := words[i-15], words[i-2]
		s0 := bits.RotateLeft32(x, -7) ^ bits.RotateLeft32(x, -18) ^ x>>3
		s1 := bits.RotateLeft32(y, -17) ^ bits.RotateLeft32(y, -19) ^ y>>10
		words[i] = words[i-16] + s0 + words[i-7] + s1
	}
	return words
}

func asBytes(hash [8]uint32) [32]byte {
	var sum [32]byte
	for i, word := range hash {
		for j := range 4 {
			sum[4*i+j] = byte(word >> (24 - 8*j))
		}
	}
	return sum
}
