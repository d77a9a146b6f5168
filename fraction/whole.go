package fraction

import (
	"cmp"
	"math/bits"
)

// whole is a natural number: the sum of x[i] * 2^(64*i), without a most significant word 0, so that 0 is empty.
// The words of a number that is complete never change; therefore numbers may share them.
type whole []uint64

// Words returns how many words a list has without its most significant words 0.
func Words[W uint32 | uint64](list []W) int {
	n := len(list)
	for n > 0 && list[n-1] == 0 {
		n--
	}
	return n
}

func trim(x whole) whole {
	return x[:Words(x)]
}

// extended returns a copy of x with n words.
func extended(x whole, n int) whole {
	z := make(whole, n)
	copy(z, x)
	return z
}

func single(w uint64) whole {
	return trim(whole{w})
}

func isOne(x whole) bool {
	return len(x) == 1 && x[0] == 1
}

// pack makes a number of words of 32 bits.
func pack(list []uint32) whole {
	list = list[:Words(list)]
	x := make(whole, (len(list)+1)/2)
	for i, w := range list {
		x[i/2] |= uint64(w) << (32 * (i % 2))
	}
	return x
}

// unpack returns the words of 32 bits of a number, nil for 0.
func unpack(x whole) []uint32 {
	if len(x) == 0 {
		return nil
	}
	list := make([]uint32, 0, 2*len(x))
	for _, w := range x {
		list = append(list, uint32(w), uint32(w>>32))
	}
	return list[:Words(list)]
}

func compare(x, y whole) int {
	if len(x) != len(y) {
		return cmp.Compare(len(x), len(y))
	}
	for i := len(x) - 1; i >= 0; i-- {
		if x[i] != y[i] {
			return cmp.Compare(x[i], y[i])
		}
	}
	return 0
}

func plus(x, y whole) whole {
	if len(x) < len(y) {
		x, y = y, x
	}
	z := extended(x, len(x)+1)
	addTo(z, y)
	return trim(z)
}

// minus returns x - y, where y is not greater than x.
func minus(x, y whole) whole {
	z := extended(x, len(x))
	takeFrom(z, y)
	return trim(z)
}

func times(x, y whole) whole {
	z := make(whole, len(x)+len(y))
	for i, w := range x {
		z[i+len(y)] = addTimes(z[i:i+len(y)], y, w)
	}
	return trim(z)
}

// addTo adds y to the words of z, which are at least as many, and returns the carry out of z.
func addTo(z, y whole) uint64 {
	var carry uint64
	for i, w := range y {
		z[i], carry = bits.Add64(z[i], w, carry)
	}
	for i := len(y); i < len(z) && carry != 0; i++ {
		z[i], carry = bits.Add64(z[i], 0, carry)
	}
	return carry
}

// takeFrom subtracts y from the words of z, which are at least as many.
func takeFrom(z, y whole) {
	var borrow uint64
	for i, w := range y {
		z[i], borrow = bits.Sub64(z[i], w, borrow)
	}
	for i := len(y); i < len(z) && borrow != 0; i++ {
		z[i], borrow = bits.Sub64(z[i], 0, borrow)
	}
}

// addTimes adds w * y to the words of z, which are as many as those of y, and returns the word that is carried out of z.
func addTimes(z, y whole, w uint64) uint64 {
	var up, carry uint64
	for i, v := range y {
		hi, lo := bits.Mul64(v, w)
		lo, carry = bits.Add64(lo, up, 0)
		up = hi + carry
		z[i], carry = bits.Add64(z[i], lo, 0)
		up += carry
	}
	return up
}

// takeTimes subtracts w * y from the words of z, which are as many as those of y, and returns the word that is borrowed from beyond z.
func takeTimes(z, y whole, w uint64) uint64 {
	var up, carry uint64
	for i, v := range y {
		hi, lo := bits.Mul64(v, w)
		lo, carry = bits.Add64(lo, up, 0)
		up = hi + carry
		z[i], carry = bits.Sub64(z[i], lo, 0)
		up += carry
	}
	return up
}

// shiftUp returns x * 2^n, n less than 64, with one word more than x, which may be 0.
func shiftUp(x whole, n int) whole {
	z := make(whole, len(x)+1)
	for i, w := range x {
		z[i] |= w << n
		z[i+1] = w >> (64 - n)
	}
	return z
}

// shiftDown returns x / 2^n, rounded down, n less than 64.
func shiftDown(x whole, n int) whole {
	z := make(whole, len(x))
	for i, w := range x {
		z[i] = w >> n
		if i > 0 {
			z[i-1] |= w << (64 - n)
		}
	}
	return trim(z)
}
