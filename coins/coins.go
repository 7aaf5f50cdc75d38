// Package coins is integer arithmetic that detects overflow, and the text form of amounts.
package coins

import (
	"math"
	"math/bits"
	"strconv"
	"strings"

	"countinghouse/api"
)

const (
	mostParts  = 100
	mostDigits = 6
)

// Add returns a plus b, or ErrOver.
func Add(a, b int64) (int64, api.Errno) {
	c := a + b
	if (b >= 0) != (c >= a) {
		return 0, api.ErrOver
	}
	return c, api.OK
}

// Less returns a minus b, or ErrOver.
func Less(a, b int64) (int64, api.Errno) {
	c := a - b
	if (b >= 0) != (c <= a) {
		return 0, api.ErrOver
	}
	return c, api.OK
}

// Times returns a times b, or ErrOver.
func Times(a, b int64) (int64, api.Errno) {
	hi, lo := bits.Mul64(size(a), size(b))
	if hi != 0 {
		return 0, api.ErrOver
	}
	return signed(lo, (a < 0) != (b < 0))
}

// Total returns the sum of all elements, or ErrOver if it is not a sum.
func Total(l []int64) (int64, api.Errno) {
	// Two words, so that what runs over on the way can come back.
	var hi, lo uint64
	for _, x := range l {
		var carry uint64
		lo, carry = bits.Add64(lo, uint64(x), 0)
		hi, _ = bits.Add64(hi, uint64(x>>63), carry)
	}
	if int64(hi) != int64(lo)>>63 {
		return 0, api.ErrOver
	}
	return int64(lo), api.OK
}

// Share divides a into parts that differ by at most 1, the greater ones first.
func Share(a int64, parts int) ([]int64, api.Errno) {
	if parts < 1 || parts > mostParts {
		return nil, api.ErrArg
	}
	each, extra := a/int64(parts), a%int64(parts)
	if extra < 0 {
		each--
		extra += int64(parts)
	}
	l := make([]int64, parts)
	for i := range l {
		l[i] = each
		if int64(i) < extra {
			l[i]++
		}
	}
	return l, api.OK
}

// Text returns a in decimal with this many digits after the point.
func Text(a int64, digits int) string {
	digits = within(digits)
	s := strconv.FormatUint(size(a), 10)
	if short := digits + 1 - len(s); short > 0 {
		s = strings.Repeat("0", short) + s
	}
	if digits > 0 {
		s = s[:len(s)-digits] + "." + s[len(s)-digits:]
	}
	if a < 0 {
		s = "-" + s
	}
	return s
}

// Read returns the sum whose Text is s, or ErrBytes.
func Read(s string, digits int) (int64, api.Errno) {
	digits = within(digits)
	plain := s
	if point := len(s) - digits - 1; digits > 0 && point >= 0 {
		plain = s[:point] + s[point+1:]
	}
	a, err := strconv.ParseInt(plain, 10, 64)
	// Only what Text writes is read; so a second spelling of a sum is refused.
	if err != nil || Text(a, digits) != s {
		return 0, api.ErrBytes
	}
	return a, api.OK
}

// Between returns the sum from lo to hi that is nearest to a, or lo if there is none.
func Between(a, lo, hi int64) int64 {
	return max(lo, min(a, hi))
}

// size is the absolute value, which for the least sum is not a sum.
func size(a int64) uint64 {
	if a < 0 {
		return -uint64(a)
	}
	return uint64(a)
}

func signed(size uint64, negative bool) (int64, api.Errno) {
	if negative && size <= 1<<63 {
		return int64(-size), api.OK
	}
	if !negative && size <= math.MaxInt64 {
		return int64(size), api.OK
	}
	return 0, api.ErrOver
}

func within(digits int) int {
	return max(0, min(digits, mostDigits))
}
