package fraction

import "math/bits"

// leadingBits is how many bits of a number the steps below look at: the sums in leadingSteps stay within an int.
const leadingBits = 62

// steps stands for several steps of Euclid's algorithm, which replace x and y by a*x + b*y and c*x + d*y.
type steps struct {
	a, b, c, d int
}

// commonDivisor returns the greatest common divisor of two numbers, of which one may be 0, by Lehmer's algorithm: Euclid's, where the leading bits decide several quotients at once.
func commonDivisor(x, y whole) whole {
	if compare(x, y) < 0 {
		x, y = y, x
	}
	x, y = extended(x, len(x)), extended(y, len(x)) // two copies of one length, in which the steps are made
	for Words(y) > 1 {
		if s := leadingSteps(leading(x, y)); s.b != 0 {
			x, y = s.apply(x, y)
		} else { // the leading bits do not decide even one quotient
			y = trim(y)
			_, rest := divide(x, y)
			x, y = y, extended(rest, len(y))
		}
		n := Words(x)
		x, y = x[:n], y[:n]
	}
	if Words(y) == 0 {
		return x
	}
	_, rest := divideWord(x, y[0])
	return single(wordDivisor(y[0], rest))
}

func wordDivisor(x, y uint64) uint64 {
	for y != 0 {
		x, y = y, x%y
	}
	return x
}

// leading returns the leading bits of x, which has two words or more, and the bits of y at the same places.
func leading(x, y whole) (int, int) {
	at := 64*len(x) - bits.LeadingZeros64(x[len(x)-1]) - leadingBits
	return int(bitsFrom(x, at)), int(bitsFrom(y, at))
}

// bitsFrom returns 64 bits of x, from the bit with the number at on.
func bitsFrom(x whole, at int) uint64 {
	var low, high uint64
	if at/64 < len(x) {
		low = x[at/64]
	}
	if at/64+1 < len(x) {
		high = x[at/64+1]
	}
	return low>>(at%64) | high<<(64-at%64)
}

// leadingSteps makes steps as long as the quotient is the same for all pairs of numbers that begin with the bits x and y: it lies between those of the sums (Knuth, Algorithm L).
func leadingSteps(x, y int) steps {
	s := steps{a: 1, d: 1}
	for y+s.c != 0 && y+s.d != 0 {
		q := (x + s.a) / (y + s.c)
		if q != (x+s.b)/(y+s.d) {
			break
		}
		s = steps{s.c, s.d, s.a - q*s.c, s.b - q*s.d}
		x, y = y, x-q*y
	}
	return s
}

// apply replaces the words of x and y, which are as many, by those after the steps, and returns both numbers, the greater one first.
func (s steps) apply(x, y whole) (whole, whole) {
	if s.b > 0 {
		x, y = y, x
		s = steps{s.b, s.a, s.d, s.c}
	}
	// Now b and c are not positive.
	first, second := blend{p: uint64(s.a), q: uint64(-s.b)}, blend{p: uint64(s.d), q: uint64(-s.c)}
	for i, v := range x {
		w := y[i]
		x[i], y[i] = first.next(v, w), second.next(w, v)
	}
	return x, y
}

// blend forms p*x - q*y word by word, from the least significant word on.
type blend struct {
	p, q             uint64
	up, down, borrow uint64
}

func (b *blend) next(x, y uint64) uint64 {
	hi, more := bits.Mul64(b.p, x)
	more, carry := bits.Add64(more, b.up, 0)
	b.up = hi + carry
	hi, less := bits.Mul64(b.q, y)
	less, carry = bits.Add64(less, b.down, 0)
	b.down = hi + carry
	more, b.borrow = bits.Sub64(more, less, b.borrow)
	return more
}
