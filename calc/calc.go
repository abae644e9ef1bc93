// Package calc is layer 1: numbers of 64 bits that never go beyond.
package calc

import (
	"math"
	"math/bits"
	"strconv"

	"afflux/api"
)

// wide is a number of 128 bits: sums of as many numbers as can be handed in never leave it.
type wide struct {
	high int64
	low  uint64
}

func widen(n int64) wide {
	return wide{high: n >> 63, low: uint64(n)}
}

func (w wide) plus(n int64) wide {
	x := widen(n)
	low, carry := bits.Add64(w.low, x.low, 0)
	return wide{high: w.high + x.high + int64(carry), low: low}
}

func (w wide) less(n int64) wide {
	x := widen(n)
	low, borrow := bits.Sub64(w.low, x.low, 0)
	return wide{high: w.high - x.high - int64(borrow), low: low}
}

// narrow is the number that a wide one is, or ErrRange.
func (w wide) narrow() (int64, api.Errno) {
	n := int64(w.low)
	if w != widen(n) {
		return 0, api.ErrRange
	}
	return n, api.OK
}

// Add is the sum of all.
func Add(l ...int64) (int64, api.Errno) {
	var sum wide
	for _, n := range l {
		sum = sum.plus(n)
	}
	return sum.narrow()
}

// Sub is a number less all others.
func Sub(a int64, l ...int64) (int64, api.Errno) {
	rest := widen(a)
	for _, n := range l {
		rest = rest.less(n)
	}
	return rest.narrow()
}

// Neg is the opposite.
func Neg(a int64) (int64, api.Errno) {
	return Sub(0, a)
}

// Mul is the product of all.
func Mul(l ...int64) (int64, api.Errno) {
	// A 0 anywhere undoes whatever went beyond ahead of it.
	for _, n := range l {
		if n == 0 {
			return 0, api.OK
		}
	}
	size, below := uint64(1), false
	for _, n := range l {
		high, low := bits.Mul64(size, magnitude(n))
		if high != 0 {
			return 0, api.ErrRange
		}
		size, below = low, below != (n < 0)
	}
	return signed(size, below)
}

func magnitude(n int64) uint64 {
	if n < 0 {
		return -uint64(n)
	}
	return uint64(n)
}

// signed is the number of a magnitude, and whether it is below 0.
func signed(size uint64, below bool) (int64, api.Errno) {
	if below && size <= 1<<63 {
		return int64(-size), api.OK
	}
	if !below && size < 1<<63 {
		return int64(size), api.OK
	}
	return 0, api.ErrRange
}

// Div is a quotient, rounded down.
func Div(a, b int64) (int64, api.Errno) {
	if b == 0 {
		return 0, api.ErrZero
	}
	if a == math.MinInt64 && b == -1 {
		return 0, api.ErrRange
	}
	q := a / b
	if a%b != 0 && (a < 0) != (b < 0) {
		q--
	}
	return q, api.OK
}

// Mod is what is left of a quotient.
func Mod(a, b int64) (int64, api.Errno) {
	if b == 0 {
		return 0, api.ErrZero
	}
	if b == -1 {
		return 0, api.OK
	}
	r := a % b
	if r != 0 && (r < 0) != (b < 0) {
		r += b
	}
	return r, api.OK
}

// Least is the least of all.
func Least(first int64, more ...int64) int64 {
	for _, n := range more {
		first = min(first, n)
	}
	return first
}

// Most is the greatest of all.
func Most(first int64, more ...int64) int64 {
	for _, n := range more {
		first = max(first, n)
	}
	return first
}

// Parse is the number of a text.
func Parse(s string) (int64, api.Errno) {
	digits, below := s, false
	if len(s) > 0 && s[0] == '-' {
		digits, below = s[1:], true
	}
	if !plain(digits) || below && digits == "0" {
		return 0, api.ErrParse
	}
	var size uint64
	for i := range len(digits) {
		high, low := bits.Mul64(size, 10)
		sum, carry := bits.Add64(low, uint64(digits[i]-'0'), 0)
		if high != 0 || carry != 0 {
			return 0, api.ErrRange
		}
		size = sum
	}
	return signed(size, below)
}

// plain tells whether a text is decimal digits, without a 0 ahead of others.
func plain(s string) bool {
	for i := range len(s) {
		if s[i] < '0' || s[i] > '9' {
			return false
		}
	}
	return s == "0" || s != "" && s[0] != '0'
}

// Print is a number's text.
func Print(n int64) string {
	return strconv.FormatInt(n, 10)
}

// Total keeps the sum of numbers that come and go.
type Total struct {
	sum   wide
	count int
}

// Put adds numbers.
func (t *Total) Put(l ...int64) {
	if t == nil {
		return
	}
	for _, n := range l {
		t.sum = t.sum.plus(n)
	}
	t.count += len(l)
}

// Take takes numbers away.
func (t *Total) Take(l ...int64) {
	if t == nil {
		return
	}
	for _, n := range l {
		t.sum = t.sum.less(n)
	}
	t.count -= len(l)
}

// Sum is the sum of all.
func (t *Total) Sum() (int64, api.Errno) {
	if t == nil {
		return 0, api.OK
	}
	return t.sum.narrow()
}

// Count is how many there are.
func (t *Total) Count() int {
	if t == nil {
		return 0
	}
	return t.count
}
