// Package coin is layer 1: amounts: see shared/doc/01-coin.md.
package coin

import (
	"math/bits"
	"strconv"

	"cambist/api"
)

// wide is a whole number of 128 bits, in two's complement: its low half, and its high one. What two amounts make, or any list of them that can be, lies within, so that nothing need be told till the end.
type wide [2]uint64

// widen is an amount as a wide number: the high half repeats its sign.
func widen(n int64) wide { return wide{uint64(n), uint64(n >> 63)} }

// plus is the sum of two wide numbers.
func plus(a, b wide) wide {
	low, carry := bits.Add64(a[0], b[0], 0)
	high, _ := bits.Add64(a[1], b[1], carry)
	return wide{low, high}
}

// minus is the difference of two wide numbers.
func minus(a, b wide) wide {
	low, borrow := bits.Sub64(a[0], b[0], 0)
	high, _ := bits.Sub64(a[1], b[1], borrow)
	return wide{low, high}
}

// times is the product of two amounts. The library multiplies without signs: it takes a number below 0 for one that is 2^64 greater, so the other one is too much in the high half.
func times(a, b int64) wide {
	high, low := bits.Mul64(uint64(a), uint64(b))
	if a < 0 {
		high -= uint64(b)
	}
	if b < 0 {
		high -= uint64(a)
	}
	return wide{low, high}
}

// narrow is the amount that a wide number is; without one it lies beyond.
func narrow(w wide) (int64, api.Errno) {
	n := int64(w[0])
	if widen(n) != w {
		return 0, api.ErrOver
	}
	return n, api.OK
}

// Add, Sub and Mul are a sum, a difference and a product.
func Add(a, b int64) (int64, api.Errno) { return narrow(plus(widen(a), widen(b))) }
func Sub(a, b int64) (int64, api.Errno) { return narrow(minus(widen(a), widen(b))) }
func Mul(a, b int64) (int64, api.Errno) { return narrow(times(a, b)) }

// Sum is the sum of all. Only the whole sum is held against the bounds, so the order of its parts can't matter.
func Sum(l ...int64) (int64, api.Errno) {
	var sum wide
	for _, n := range l {
		sum = plus(sum, widen(n))
	}
	return narrow(sum)
}

// Text is an amount as a text.
func Text(n int64) string { return strconv.FormatInt(n, 10) }

// Parse is the amount that a text is. The library reads more than Text writes (a plus, a 0 ahead): such texts are no amount's.
func Parse(s string) (int64, api.Errno) {
	n, err := strconv.ParseInt(s, 10, 64)
	if err != nil || Text(n) != s {
		return 0, api.ErrText
	}
	return n, api.OK
}
