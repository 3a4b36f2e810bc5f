// Package num: numbers as text and as bytes: see shared/doc/01-num.md.
package num

import (
	"math"
	"math/bits"
	"strconv"
	"strings"

	"outcry/api"
)

const (
	priceDigits = 4     // behind the point of a price
	priceUnit   = 10000 // ten-thousandths in 1

	mostBytes    = 8  // of a number of 64 bits
	mostVarBytes = 10 // of a number of 64 bits, seven in a byte

	crcTurn = 0xEDB88320
)

// ParseUint reads a number that is not below 0, and at most most (N1).
func ParseUint(s string, most int64) (int64, api.Errno) {
	if !isNumeral(s) {
		return 0, api.ErrNumber
	}
	n, ok := readNumeral(s)
	if !ok || n > most {
		return 0, api.ErrGreat
	}
	return n, api.OK
}

// ParseInt reads a number whose size is at most most (N1).
func ParseInt(s string, most int64) (int64, api.Errno) {
	digits, below := strings.CutPrefix(s, "-")
	if below && digits == "0" {
		return 0, api.ErrNumber
	}
	n, e := ParseUint(digits, most)
	if below {
		n = -n
	}
	return n, e
}

// Print writes a number (N1).
func Print(n int64) string { return strconv.FormatInt(n, 10) }

// ParsePrice reads a price, in ten-thousandths (N2).
func ParsePrice(s string) (int64, api.Errno) {
	whole, rest, point := strings.Cut(s, ".")
	// The rest is asked first: ErrNumber goes ahead of a whole part that is too great.
	if point && !isPriceRest(rest) {
		return 0, api.ErrNumber
	}
	n, e := ParseUint(whole, api.MaxPrice/priceUnit)
	if e != api.OK {
		return 0, e
	}
	p := n*priceUnit + readPriceRest(rest)
	if p > api.MaxPrice {
		return 0, api.ErrGreat
	}
	return p, api.OK
}

// PrintPrice writes a price, in its one way (N2).
func PrintPrice(p int64) string {
	n := magnitude(p)
	s := strconv.FormatUint(n/priceUnit, 10)
	if p < 0 {
		s = "-" + s
	}
	rest := n % priceUnit
	if rest == 0 {
		return s
	}
	// The unit added ahead keeps the noughts that the rest begins with.
	digits := strconv.FormatUint(priceUnit+rest, 10)[1:]
	return s + "." + strings.TrimRight(digits, "0")
}

// Add and Mul tell a sum and a product; false: it leaves 64 bits (N3).
func Add(a int64, b int64) (int64, bool) {
	if b > 0 && a > math.MaxInt64-b || b < 0 && a < math.MinInt64-b {
		return 0, false
	}
	return a + b, true
}

// Mul tells a product (N3).
func Mul(a int64, b int64) (int64, bool) {
	p, _, ok := MulDiv(a, b, 1)
	return p, ok
}

// MulDiv tells a times b by c, rounded down, and what is left; false: it leaves 64 bits, or c is not above 0 (N3).
func MulDiv(a int64, b int64, c int64) (int64, int64, bool) {
	if c <= 0 {
		return 0, 0, false
	}
	by := uint64(c)
	high, low := bits.Mul64(magnitude(a), magnitude(b))
	// bits.Div64 panics at a quotient of more than 64 bits.
	if high >= by {
		return 0, 0, false
	}
	q, r := bits.Div64(high, low, by)
	if (a < 0) != (b < 0) {
		return downBelow(q, r, by)
	}
	if q > math.MaxInt64 {
		return 0, 0, false
	}
	return int64(q), int64(r), true
}

// Put adds a number in so many bytes, the highest first (N4).
func Put(b []byte, n uint64, size int) []byte {
	size = min(max(size, 0), mostBytes)
	out := copyWithRoom(b, size)
	for i := size - 1; i >= 0; i-- {
		out = append(out, byte(n>>(8*i)))
	}
	return out
}

// Get reads a number from the first bytes; false: there are not so many (N4).
func Get(b []byte, size int) (uint64, bool) {
	if size < 1 || size > mostBytes || len(b) < size {
		return 0, false
	}
	var n uint64
	for _, c := range b[:size] {
		n = n<<8 | uint64(c)
	}
	return n, true
}

// PutVar adds a number in as few bytes as may be (N5).
func PutVar(b []byte, n int64) []byte {
	u := fold(n)
	out := copyWithRoom(b, mostVarBytes)
	for u > 0x7f {
		out = append(out, byte(u)|0x80)
		u >>= 7
	}
	return append(out, byte(u))
}

// GetVar reads one, and tells how many bytes it has; 0: there is none (N5).
func GetVar(b []byte) (int64, int) {
	var u uint64
	for i, c := range b {
		// Nine bytes hold 63 bits: the tenth has room for one more, and ends the number.
		if i == mostVarBytes-1 && c > 1 {
			return 0, 0
		}
		u |= uint64(c&0x7f) << (7 * i)
		if c > 0x7f {
			continue
		}
		if c == 0 && i > 0 {
			return 0, 0
		}
		return unfold(u), i + 1
	}
	return 0, 0
}

// Sum is the sum of bytes, modulo 256 (N6).
func Sum(b ...[]byte) int {
	var sum byte
	for _, list := range b {
		for _, c := range list {
			sum += c
		}
	}
	return int(sum)
}

// Crc is a sum that tells what was spoilt (N6).
func Crc(b []byte) uint32 {
	crc := uint32(math.MaxUint32)
	for _, c := range b {
		crc ^= uint32(c)
		for range 8 {
			odd := crc&1 == 1
			crc >>= 1
			if odd {
				crc ^= crcTurn
			}
		}
	}
	return ^crc
}

func areDigits(s string) bool {
	for i := range len(s) {
		if s[i] < '0' || s[i] > '9' {
			return false
		}
	}
	return true
}

func isNumeral(s string) bool {
	return s == "0" || s != "" && s[0] != '0' && areDigits(s)
}

// readNumeral tells the number of a numeral; false: it is no int64.
func readNumeral(s string) (int64, bool) {
	var n int64
	for i := range len(s) {
		digit := int64(s[i] - '0')
		if n > (math.MaxInt64-digit)/10 {
			return 0, false
		}
		n = n*10 + digit
	}
	return n, true
}

func isPriceRest(s string) bool {
	return s != "" && len(s) <= priceDigits && areDigits(s)
}

// readPriceRest tells the ten-thousandths of the digits behind the point.
func readPriceRest(s string) int64 {
	var n int64
	for i := range priceDigits {
		n *= 10
		if i < len(s) {
			n += int64(s[i] - '0')
		}
	}
	return n
}

// magnitude is unsigned, so that the least int64 has one too.
func magnitude(n int64) uint64 {
	if n < 0 {
		return -uint64(n)
	}
	return uint64(n)
}

// downBelow tells, of a quotient and rest that were reckoned without the sign, those of the number below 0, rounded down.
func downBelow(q, r, by uint64) (int64, int64, bool) {
	const most = 1 << 63 // the least int64 without its sign
	// Asked ahead of the rounding, which would turn the greatest uint64 into 0.
	if q > most || q == most && r > 0 {
		return 0, 0, false
	}
	if r > 0 {
		q++
		r = by - r
	}
	return int64(-q), int64(r), true
}

func copyWithRoom(b []byte, room int) []byte {
	return append(make([]byte, 0, len(b)+room), b...)
}

// fold turns numbers near 0 on either side into small ones: 0, -1, 1, -2 into 0, 1, 2, 3.
func fold(n int64) uint64 {
	if n < 0 {
		return uint64(-(n+1))<<1 + 1
	}
	return uint64(n) << 1
}

func unfold(u uint64) int64 {
	if u&1 == 1 {
		return -int64(u>>1) - 1
	}
	return int64(u >> 1)
}
