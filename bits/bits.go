// Package bits is layer 1: see shared/doc/01-bits.md.
package bits

import "quintet/api"

// width is how many bits a word has.
const width = 32

// onesOfFour spares Ones a step for each single bit: its place n holds how many ones the number n of four bits has.
var onesOfFour = [16]int{0, 1, 1, 2, 1, 2, 2, 3, 1, 2, 2, 3, 2, 3, 3, 4}

// High is P1.1.
func High(n int) (uint32, api.Errno) {
	if !isLength(n) {
		return 0, api.ErrArg
	}
	var word uint32
	for i := range n {
		word |= single(i)
	}
	return word, api.OK
}

// Keep is P1.1.
func Keep(a uint32, n int) (uint32, api.Errno) {
	first, err := High(n)
	if err != api.OK {
		return 0, err
	}
	return a & first, api.OK
}

// At is P1.2.
func At(a uint32, i int) (int, api.Errno) {
	if i < 0 || i >= width {
		return 0, api.ErrArg
	}
	return bit(a, i), api.OK
}

// Same is P1.2.
func Same(a, b uint32) int {
	for i := range width {
		if bit(a, i) != bit(b, i) {
			return i
		}
	}
	return width
}

// Low is P1.3.
func Low(a uint32) int {
	for i := range width {
		if bit(a, width-1-i) == 1 {
			return i
		}
	}
	return width
}

// Ones is P1.3.
func Ones(a uint32) int {
	ones := 0
	for i := range width / 4 {
		ones += onesOfFour[a>>(4*i)&15]
	}
	return ones
}

// Turn is P1.3.
func Turn(a uint32) uint32 {
	var turned uint32
	for i := range width {
		if bit(a, width-1-i) == 1 {
			turned |= single(i)
		}
	}
	return turned
}

// Text is P1.4.
func Text(a uint32, n int) (string, api.Errno) {
	if !isLength(n) {
		return "", api.ErrArg
	}
	text := make([]byte, n)
	for i := range n {
		text[i] = '0' + byte(bit(a, i))
	}
	return string(text), api.OK
}

// isLength tells whether a word has n first bits.
func isLength(n int) bool { return n >= 0 && n <= width }

// single is the word whose bit i alone is 1. Callers see to it that i is 0 to 31: a shift by less than nothing would panic.
func single(i int) uint32 { return 1 << (width - 1 - i) }

// bit is the bit i of a. Callers see to it that i is 0 to 31, as with single.
func bit(a uint32, i int) int { return int(a >> (width - 1 - i) & 1) }
