package arbiter

import (
	"outcry/api"
	"outcry/num"
)

const (
	ofChanges = 1

	numberSize = 4
	kindAt     = 4
	sumSize    = 4
	leastSize  = numberSize + 1 + sumSize
)

// numberOf tells the number of a packet, and whether it is a right one; what else is in it is for those who read it.
func numberOf(b []byte) (int, bool) {
	if len(b) < leastSize || b[kindAt] != ofChanges {
		return 0, false
	}
	end := len(b) - sumSize
	sum, _ := num.Get(b[end:], sumSize)
	number, _ := num.Get(b, numberSize)
	if number < 1 || number > api.MaxSeq || sum != uint64(num.Crc(b[:end])) {
		return 0, false
	}
	return int(number), true
}
